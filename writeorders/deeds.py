"""Deeds: what is done to a tree, by form."""

from writeorders.images import MOST_PAGES_OF_A_NODE, is_name, is_text, is_within

MOST_NAMES_OF_A_WAY = 6


def is_deed(thing):
    """Whether it is a deed by form, of anything."""
    if not isinstance(thing, tuple) or len(thing) < 2:
        return False
    word = thing[0]
    if not isinstance(word, str) or not _is_way(thing[1]):
        return False
    rest = thing[2:]
    if word in ("make", "folder", "drop"):
        return len(rest) == 0
    if word in ("link", "move"):
        return len(rest) == 1 and _is_way(rest[0])
    if word == "put":
        return len(rest) == 2 and is_within(rest[0], 0, MOST_PAGES_OF_A_NODE - 1) and is_text(rest[1])
    if word == "cut":
        return len(rest) == 1 and is_within(rest[0], 0, MOST_PAGES_OF_A_NODE)
    return False


def _is_way(thing):
    if not isinstance(thing, tuple) or not 1 <= len(thing) <= MOST_NAMES_OF_A_WAY:
        return False
    return all([is_name(name) for name in thing])
