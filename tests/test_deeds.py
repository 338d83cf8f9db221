"""What is a deed by form: point [8], with [2]."""

import unittest

from tests.things import SIXTY_FIGURES, Prickly, Unhashable, deep_list, deep_tuple, no_whole_numbers, things_of_any_kind
from writeorders.deeds import is_deed

WAY = ("a", "bc")
DEEDS = [
    ("make", WAY), ("folder", WAY), ("drop", WAY), ("link", WAY, ("d",)), ("move", WAY, ("d",)),
    ("put", WAY, 1, "text"), ("cut", WAY, 1),
]
NO_PATHS = [
    (), ("a",) * 7, ("a",) * 8, ("a",) * 100, ["a"], ["a", "bc"], "a", "abc", b"a", ("",), ("a", ""), ("", "a"),
    ("abcdefghi",), ("a", "abcdefghi", "a"), ("A",), ("a1",), ("a b",), ("a/b",), ("/",), (" ",), ("`",), ("{",),
    (b"a",), (1,), ("a", 1), (1, "a"), (None,), ("a", None), (True,), (("a",),), ("a", ("b",)), (["a"],), ({},),
    (Prickly(),), ("a", Prickly()), {"a": 1}, {"a"}, ("a\n",), (chr(0xE4),), (Unhashable(1),),
]


def with_part(deed, at, part):
    return deed[:at] + (part,) + deed[at + 1:]


def places(*kinds):
    """The deeds and places where a path, a number or a text stands."""
    at = {"path": [(deed, 1) for deed in DEEDS] + [(deed, 2) for deed in DEEDS if deed[0] in ("link", "move")],
          "k": [(DEEDS[5], 2)], "many": [(DEEDS[6], 2)], "text": [(DEEDS[5], 3)]}
    return [place for kind in kinds for place in at[kind]]


def repr_of_int(thing):
    return repr(thing) if isinstance(thing, int) else None


class IsDeed(unittest.TestCase):
    def no_deed(self, thing):
        self.assertIs(is_deed(thing), False)
        self.assertIs(is_deed(thing=thing), False)

    def a_deed(self, thing):
        self.assertIs(is_deed(thing), True, thing)
        self.assertIs(is_deed(thing=thing), True, thing)

    def test_of_each_word(self):
        for deed in DEEDS:
            self.a_deed(deed)

    def test_of_anything(self):
        for thing in things_of_any_kind() + [()]:
            self.no_deed(thing)

    def test_paths_of_one_to_six_names(self):
        for deed, at in places("path"):
            for many in range(12):
                for name in ("a", "z", "abcdefgh", "zzzzzzzz"):
                    thing = with_part(deed, at, (name,) * many)
                    (self.a_deed if 1 <= many <= 6 else self.no_deed)(thing)

    def test_names_of_eight_and_nine_letters_at_each_place(self):
        for deed, at in places("path"):
            for many in range(1, 7):
                for place in range(many):
                    way = ("ab",) * many
                    self.a_deed(with_part(deed, at, with_part(way, place, "abcdefgh")))
                    self.no_deed(with_part(deed, at, with_part(way, place, "abcdefghi")))
                    self.no_deed(with_part(deed, at, with_part(way, place, "")))

    def test_no_paths(self):
        for deed, at in places("path"):
            for thing in NO_PATHS + things_of_any_kind():
                self.no_deed(with_part(deed, at, thing))

    def test_path_and_other_may_be_the_same(self):
        self.a_deed(("link", WAY, WAY))
        self.a_deed(("move", WAY, WAY))
        self.a_deed(("move", WAY, WAY + ("d",)))

    def test_numbers_of_pages(self):
        for number in range(-3, 9):
            (self.a_deed if 0 <= number <= 2 else self.no_deed)(("put", WAY, number, "text"))
            (self.a_deed if 0 <= number <= 3 else self.no_deed)(("cut", WAY, number))

    def test_numbers_of_another_kind(self):
        for deed, at in places("k", "many"):
            for thing in no_whole_numbers() + [SIXTY_FIGURES, -SIXTY_FIGURES, "1", (1,), [1], deep_tuple()]:
                self.no_deed(with_part(deed, at, thing))
            for truth in (True, False):
                self.no_deed(with_part(deed, at, truth))

    def test_lengths_of_texts(self):
        for many in (0, 1, 39, 40):
            self.a_deed(("put", WAY, 0, "x" * many))
        for many in (41, 42, 80, 9000):
            self.no_deed(("put", WAY, 0, "x" * many))

    def test_signs_of_texts(self):
        for code in list(range(200)) + [0xE4, 0x2028, 0x1F600]:
            for text in (chr(code), "a" + chr(code), chr(code) + "a", "a" * 39 + chr(code)):
                (self.a_deed if 32 <= code <= 126 else self.no_deed)(("put", WAY, 2, text))

    def test_texts_of_another_kind(self):
        for thing in no_whole_numbers() + [0, 1, ["text"], ("text",), deep_list()]:
            if not isinstance(thing, str):
                self.no_deed(("put", WAY, 0, thing))

    def test_a_thing_more_and_fewer(self):
        for deed in DEEDS:
            for more in ((), WAY, "text", 0, None, Prickly()):
                self.no_deed(deed + (more,))
                self.no_deed((more,) + deed)
            for at in range(len(deed)):
                self.no_deed(deed[:at])
                self.no_deed(deed[:at] + deed[at + 1:])

    def test_lists_for_tuples(self):
        for deed in DEEDS:
            self.no_deed(list(deed))
        for deed, at in places("path"):
            self.no_deed(with_part(deed, at, list(deed[at])))

    def test_other_words(self):
        for deed in DEEDS:
            words = ["", "Make", "mak", "makes", "make ", "write", "do", "clean", "read", "wish", "file", b"make",
                     deed[0] + "s", deed[0][:-1], deed[0].upper(), deed[0].encode(), (deed[0],), [deed[0]]]
            for word in words + things_of_any_kind():
                self.no_deed(with_part(deed, 0, word))

    def test_the_form_of_one_word_is_not_that_of_another(self):
        for deed in DEEDS:
            for other in DEEDS:
                alike = len(deed) == len(other) and (deed[0] == "cut") == (other[0] == "cut")
                (self.a_deed if alike else self.no_deed)(with_part(deed, 0, other[0]))

    def test_things_of_any_kind_at_each_place(self):
        for deed in DEEDS:
            for at in range(len(deed)):
                for thing in things_of_any_kind():
                    text = deed[0] == "put" and at == 3 and isinstance(thing, str) and len(thing) <= 40
                    number = (deed, at) in places("k", "many") and repr_of_int(thing) in ("0", "1")
                    (self.a_deed if text or number else self.no_deed)(with_part(deed, at, thing))


if __name__ == "__main__":
    unittest.main()
