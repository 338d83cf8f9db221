"""Numbers in figures, however many these are."""


def is_figures(word):
    """Whether a word is a number in plain figures, without a sign, with no 0 ahead but 0 itself."""
    if word == "" or not all(["0" <= sign <= "9" for sign in word]):
        return False
    return word == "0" or word[0] != "0"


def number_of(word):
    """The number that the figures are."""
    # int() refuses a word of more than some thousand figures.
    number = 0
    for sign in word:
        number = number * 10 + ord(sign) - ord("0")
    return number
