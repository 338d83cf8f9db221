"""The rules of leaning, and for each of them what breaks without it."""

from writeorders.errors import NoRule

RULES = ("made", "held", "filled", "taken", "moved", "way", "ring", "once", "lowered", "freed")

# Of 8 nodes the pages 1 and 2 of the disk have four each; page 3 is the first data page, which the first folder gets.
WITHOUT = {
    # The node of /d stands on another page than those of the files that filled the first one.
    "made": ((
        ("do", ("make", ("a",))), ("do", ("make", ("b",))), ("do", ("make", ("c",))), ("clean",),
        ("do", ("make", ("d",))), ("write", 3),
    ), None),
    # The new name of /x is on a page that /d doesn't have on the disk, for its bit isn't there.
    "held": ((
        ("do", ("folder", ("d",))), ("do", ("make", ("x",))), ("clean",),
        ("do", ("move", ("x",), ("d", "x"))), ("write", 1), ("write", 4), ("write", 3),
    ), ("x",)),
    "filled": ((("do", ("make", ("a",))), ("write", 0), ("write", 1)), None),
    "taken": ((("do", ("make", ("a",))), ("write", 3), ("write", 1)), None),
    "moved": ((
        ("do", ("folder", ("d",))), ("do", ("make", ("d", "a"))), ("do", ("make", ("x",))), ("clean",),
        ("do", ("move", ("x",), ("d", "x"))), ("write", 3),
    ), ("x",)),
    # /p/n is all there but for its name, which stands on page 4.
    "way": ((
        ("do", ("folder", ("p",))), ("do", ("make", ("x",))), ("clean",),
        ("do", ("folder", ("p", "n"))), ("do", ("move", ("x",), ("p", "n", "x"))),
        ("write", 0), ("write", 5), ("write", 1), ("write", 5), ("write", 3),
    ), ("x",)),
    # /a/b becomes /b, and /a becomes /b/a, while the disk has /a/b still.
    "ring": ((
        ("do", ("folder", ("a",))), ("do", ("folder", ("a", "b"))), ("clean",),
        ("do", ("move", ("a", "b"), ("b",))), ("do", ("move", ("a",), ("b", "a"))),
        ("write", 0), ("write", 5), ("write", 1), ("write", 5), ("write", 3),
    ), None),
    # /e stood on the second page of the first folder, and is made anew on the first one.
    "once": ((
        ("do", ("make", ("a",))), ("do", ("make", ("b",))), ("do", ("make", ("c",))), ("do", ("make", ("d",))),
        ("do", ("make", ("e",))), ("do", ("drop", ("a",))), ("clean",),
        ("do", ("drop", ("e",))), ("do", ("make", ("e",))), ("write", 1), ("write", 3),
    ), None),
    "lowered": ((("do", ("make", ("a",))), ("clean",), ("do", ("drop", ("a",))), ("write", 1)), None),
    "freed": ((
        ("do", ("make", ("a",))), ("do", ("put", ("a",), 0, "text")), ("clean",),
        ("do", ("cut", ("a",), 0)), ("write", 0),
    ), None),
}


def broken_without(word):
    """Steps that lead to a breaking image without this rule alone, and None, or to the loss of the file of a path."""
    if not _is_rule(word):
        raise NoRule(word)
    steps, path = WITHOUT[word]
    return list(steps), path


def rules_of(words):
    """These rules in the order of all; or NoRule of the first word that is none, or stood ahead."""
    seen = []
    for word in words:
        if not _is_rule(word) or word in seen:
            raise NoRule(word)
        seen.append(word)
    return tuple([rule for rule in RULES if rule in seen])


def _is_rule(thing):
    return isinstance(thing, str) and thing in RULES
