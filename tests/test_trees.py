"""Plain trees: points [8] and [9], with [2]."""

import copy
import random
import unittest

from tests import second_reckoning as second
from tests.things import SIXTY_FIGURES, Prickly, deep_list, deep_tuple, things_of_any_kind
from writeorders.errors import NoDeed, NoPart, NoPath, NotEmpty, There, Within, Wrong
from writeorders.trees import Tree

# /d/e/f within one another, /d/x and /l one file of two pages, /y a file of none, /z an empty folder.
DEEDS = [
    ("folder", ("d",)), ("folder", ("d", "e")), ("folder", ("d", "e", "f")), ("make", ("d", "x")),
    ("put", ("d", "x"), 0, "one"), ("put", ("d", "x"), 1, "two"), ("link", ("d", "x"), ("l",)),
    ("make", ("y",)), ("folder", ("z",)),
]
PATHS = [("d",), ("d", "e"), ("d", "e", "f"), ("d", "x"), ("l",), ("y",), ("z",)]


def tree_of_deeds(deeds=DEEDS):
    tree = Tree()
    for deed in deeds:
        tree.do(deed)
    return tree


def all_told(tree):
    """All that a tree tells, by its paths."""
    told = {}
    for path in [()] + tree.paths():
        if tree.sort_at(path) == "folder":
            told[path] = "folder", tree.names(path)
        else:
            told[path] = "file", tree.read(path), tree.many_names(path)
    return told


def told_second(root):
    told = {}
    for path in [()] + second.all_paths(root):
        thing = second.thing_at(root, path)
        if second.is_folder(thing):
            told[path] = "folder", sorted(thing)
        else:
            told[path] = "file", list(thing), second.many_names(root, thing)
    return told


def two_places():
    """/a/s and /b/s are one folder with a file g and a folder u, in which the file g is h; /c is an empty folder."""
    tree = Tree()
    tree.filled(
        {0: "folder", 1: "folder", 2: "folder", 3: "folder", 4: "file", 5: "folder", 7: "folder"},
        {4: ["text"]},
        {0: {"a": 1, "b": 2, "c": 7}, 1: {"s": 3}, 2: {"s": 3}, 3: {"g": 4, "u": 5}, 5: {"h": 4}, 7: {}},
    )
    return tree


class TreeTest(unittest.TestCase):
    def refused(self, tree, deed, error, worth):
        before = all_told(tree)
        with self.assertRaises(error) as held:
            tree.do(deed)
        self.assertIs(held.exception.__class__, error)
        if error is NoPart:
            self.assertIs(held.exception.number, worth)
        elif error is not NoDeed:
            self.assertEqual(held.exception.path, worth)
        self.assertEqual(all_told(tree), before)

    def asked(self, ask, path, error):
        with self.assertRaises(error) as held:
            ask(path)
        self.assertIs(held.exception.__class__, error)
        self.assertIs(held.exception.path, path)
        with self.assertRaises(error):
            ask(path=path)


class Telling(TreeTest):
    def test_a_new_tree(self):
        tree = Tree()
        self.assertEqual(tree.sort_at(()), "folder")
        self.assertEqual(tree.names(()), [])
        self.assertEqual(tree.paths(), [])
        self.assertEqual(tree, Tree())

    def test_what_deeds_made(self):
        tree = tree_of_deeds()
        self.assertEqual(tree.paths(), PATHS)
        self.assertEqual([tree.sort_at(path) for path in PATHS],
                         ["folder", "folder", "folder", "file", "file", "file", "folder"])
        self.assertEqual(tree.names(()), ["d", "l", "y", "z"])
        self.assertEqual(tree.names(path=("d",)), ["e", "x"])
        self.assertEqual(tree.names(("d", "e", "f")), [])
        self.assertEqual(tree.read(("d", "x")), ["one", "two"])
        self.assertEqual(tree.read(path=("l",)), ["one", "two"])
        self.assertEqual(tree.read(("y",)), [])
        self.assertEqual([tree.many_names(path) for path in (("d", "x"), ("l",), ("y",))], [2, 2, 1])
        self.assertEqual(tree.many_names(path=("l",)), 2)
        self.assertEqual(tree.sort_at(path=("l",)), "file")

    def test_deeds_tell_nothing(self):
        tree = Tree()
        more = [("move", ("y",), ("z", "y")), ("cut", ("l",), 1), ("drop", ("d", "x"))]
        for deed in DEEDS + more:
            self.assertIsNone(tree.do(deed))
        self.assertIsNone(tree.do(deed=("drop", ("l",))))

    def test_names_and_paths_are_sorted_whatever_the_order_of_deeds(self):
        chance = random.Random(1)
        names = ["a", "aa", "ab", "b", "ba", "zzzzzzzz", "abcdefgh"]
        for _ in range(20):
            chance.shuffle(names)
            tree = tree_of_deeds([(chance.choice(("make", "folder")), (name,)) for name in names])
            self.assertEqual(tree.names(()), sorted(names))
            self.assertEqual(tree.paths(), [(name,) for name in sorted(names)])

    def test_all_paths_are_sorted_as_tuples(self):
        tree = tree_of_deeds([("folder", ("ab",)), ("folder", ("a",)), ("make", ("a", "z")), ("make", ("ab", "a"))])
        self.assertEqual(tree.paths(), [("a",), ("a", "z"), ("ab",), ("ab", "a")])

    def test_a_folder_where_a_file_is_asked(self):
        tree = tree_of_deeds()
        for path in ((), ("d",), ("d", "e", "f"), ("z",)):
            self.asked(tree.read, path, Wrong)
            self.asked(tree.many_names, path, Wrong)

    def test_a_file_where_a_folder_is_asked(self):
        tree = tree_of_deeds()
        for path in (("d", "x"), ("l",), ("y",)):
            self.asked(tree.names, path, Wrong)

    def test_through_a_file(self):
        tree = tree_of_deeds()
        for path in (("l", "a"), ("d", "x", "e"), ("y", "a", "b", "c"), ("l", "l")):
            for ask in (tree.sort_at, tree.names, tree.read, tree.many_names):
                self.asked(ask, path, Wrong)

    def test_what_is_not_there(self):
        tree = tree_of_deeds()
        for path in (("a",), ("x",), ("e",), ("d", "d"), ("d", "e", "f", "g"), ("z", "a"), ("a", "l"), ("a", "b", "c"),
                     ("d", "y", "x"), ("z",) * 7, ("d", "e", "f", "g", "h", "i", "j", "k")):
            for ask in (tree.sort_at, tree.names, tree.read, tree.many_names):
                self.asked(ask, path, NoPath)

    def test_paths_of_more_than_six_names(self):
        tree = tree_of_deeds([("folder", ("a",) * many) for many in range(1, 7)] + [("make", ("f",))])
        tree.do(("folder", ("b",)))
        tree.do(("move", ("a",), ("b", "a")))
        self.assertEqual(tree.sort_at(("b",) + ("a",) * 6), "folder")
        self.assertEqual(tree.names(("b",) + ("a",) * 6), [])
        self.assertEqual(max(map(len, tree.paths())), 7)
        tree.do(("move", ("f",), ("b", "a", "a", "a", "a", "f")))
        self.assertEqual(tree.read(("b", "a", "a", "a", "a", "f")), [])

    def test_no_paths_of_any_kind(self):
        tree = tree_of_deeds()
        things = things_of_any_kind() + [
            ["d"], ["d", "e"], "d", "de", b"d", {"d": 1}, {"d"}, ("D",), ("",), ("d", ""), ("", "d"), ("d", 1), (1,),
            ("abcdefghi",), ("d", "abcdefghi"), (None,), ("d", None), ("d", True), (("d",),), ("d", ("e",)), (["d"],),
            ("d", ["e"]), ("d", {}), ({},), ("d", {"e"}), (Prickly(),), ("d", Prickly()), (b"d",), ("d", b"e"),
            ("d", "e", "f", 0), ("d/e",), ("/",), ("z", SIXTY_FIGURES), (deep_tuple(),), ("d", deep_list(18)),
        ]
        for thing in things:
            for ask in (tree.sort_at, tree.names, tree.read, tree.many_names):
                self.asked(ask, thing, NoPath)

    def test_told_lists_are_new_ones(self):
        for tree in (tree_of_deeds(), two_places()):
            before = all_told(tree)
            for path in [()] + tree.paths():
                ask = tree.names if tree.sort_at(path) == "folder" else tree.read
                ask(path).append("new")
                ask(path).clear()
                self.assertIsNot(ask(path), ask(path))
            tree.paths().clear()
            tree.paths().append(("new",))
            self.assertEqual(all_told(tree), before)


class Deeds(TreeTest):
    def test_a_file_has_up_to_three_pages(self):
        tree = tree_of_deeds([("make", ("a",))])
        told = []
        for k, text in ((0, "x"), (1, "y"), (0, "z"), (2, "w"), (1, ""), (2, "v")):
            tree.do(("put", ("a",), k, text))
            told.append(tree.read(("a",)))
        self.assertEqual(told, [["x"], ["x", "y"], ["z", "y"], ["z", "y", "w"], ["z", "", "w"], ["z", "", "v"]])

    def test_cut(self):
        pages = [("put", ("a",), k, str(k)) for k in range(3)]
        for many in range(4):
            for left in range(many + 1):
                tree = tree_of_deeds([("make", ("a",))] + pages[:many])
                tree.do(("cut", ("a",), left))
                self.assertEqual(tree.read(("a",)), ["0", "1", "2"][:left])
            for left in range(many + 1, 4):
                self.refused(tree, ("cut", ("a",), 3), NoPart, 3)

    def test_names_of_one_file(self):
        tree = tree_of_deeds([("make", ("a",)), ("folder", ("d",))])
        tree.do(("link", ("a",), ("d", "b")))
        tree.do(("link", ("a",), ("c",)))
        self.assertEqual(tree.many_names(("a",)), 3)
        tree.do(("put", ("d", "b"), 0, "text"))
        tree.do(("move", ("a",), ("d", "a")))
        self.assertEqual(tree.paths(), [("c",), ("d",), ("d", "a"), ("d", "b")])
        self.assertEqual([tree.read(path) for path in (("c",), ("d", "a"), ("d", "b"))], [["text"]] * 3)
        self.assertEqual(tree.many_names(("c",)), 3)
        tree.do(("drop", ("d", "b")))
        self.assertEqual([tree.many_names(path) for path in (("c",), ("d", "a"))], [2, 2])
        tree.do(("put", ("c",), 0, "other"))
        tree.do(("drop", ("c",)))
        self.assertEqual(tree.read(("d", "a")), ["other"])
        self.assertEqual(tree.many_names(("d", "a")), 1)
        tree.do(("drop", ("d", "a")))
        self.assertEqual(tree.paths(), [("d",)])
        tree.do(("make", ("c",)))
        self.assertEqual((tree.read(("c",)), tree.many_names(("c",))), ([], 1))

    def test_a_moved_folder_takes_all_along(self):
        tree = tree_of_deeds()
        tree.do(("move", ("d",), ("z", "n")))
        self.assertEqual(tree.paths(), [
            ("l",), ("y",), ("z",), ("z", "n"), ("z", "n", "e"), ("z", "n", "e", "f"), ("z", "n", "x"),
        ])
        self.assertEqual(tree.many_names(("z", "n", "x")), 2)
        tree.do(("move", ("z", "n"), ("z", "m")))
        tree.do(("move", ("z", "m", "e"), ("e",)))
        self.assertEqual(tree.paths(), [("e",), ("e", "f"), ("l",), ("y",), ("z",), ("z", "m"), ("z", "m", "x")])

    def test_dropped_and_made_again(self):
        tree = tree_of_deeds()
        tree.do(("drop", ("z",)))
        self.refused(tree, ("drop", ("z",)), NoPath, ("z",))
        tree.do(("make", ("z",)))
        self.assertEqual((tree.sort_at(("z",)), tree.read(("z",))), ("file", []))
        tree.do(("drop", ("z",)))
        tree.do(("folder", ("z",)))
        self.assertEqual(tree.names(("z",)), [])

    def test_of_anything_that_is_no_deed(self):
        tree = tree_of_deeds()
        things = things_of_any_kind() + [
            (), ("make",), ("make", ()), ("drop", ()), ("make", "a"), ("make", ["a"]), ["make", ("a",)],
            ("make", ("a",), ("b",)), ("link", ("l",)), ("move", ("l",), ("a",), 1), ("move", (), ("a",)),
            ("put", ("y",), 0), ("put", ("y",), 0, "x" * 41), ("put", ("y",), 3, "x"), ("put", ("y",), True, "x"),
            ("put", ("y",), -1, "x"), ("cut", ("y",), 4), ("cut", ("y",), False), ("cut", ("y",), SIXTY_FIGURES),
            ("make", ("a",) * 7), ("make", ("abcdefghi",)), ("write", ("y",)), ("folder", ("a", "")),
            ("put", ("y",), 0, "a\nb"), ("put", ("a",), 9, "x"), ("link", ("d",), ()), ("make", deep_tuple()),
            ("put", ("y",), 0, ["x"]), (["make"], ("a",)), (Prickly(), ("a",)), ("make", Prickly()),
        ]
        for thing in things:
            self.refused(tree, thing, NoDeed, None)
        with self.assertRaises(NoDeed):
            tree.do(deed=None)

    def test_deeds_handed_in_stay(self):
        deeds = copy.deepcopy(DEEDS)
        tree_of_deeds(deeds)
        self.assertEqual(deeds, DEEDS)


class Refusals(TreeTest):
    def each(self, deeds, error, worth=None):
        tree = tree_of_deeds()
        for deed in deeds:
            self.refused(tree, deed, error, deed[1] if worth is None else worth)

    def test_no_path_on_the_way(self):
        for path in (("a", "b"), ("d", "a", "x"), ("d", "e", "f", "g", "h"), ("a", "l"), ("z", "l", "x")):
            self.each([("make", path), ("folder", path), ("link", path, ("n",)), ("drop", path),
                       ("move", path, ("n",)), ("put", path, 0, "x"), ("cut", path, 0)], NoPath)

    def test_no_path_at_the_end(self):
        for path in (("a",), ("d", "a"), ("d", "e", "f", "x"), ("z", "z")):
            self.each([("link", path, ("n",)), ("drop", path), ("move", path, ("n",)), ("put", path, 0, "x"),
                       ("cut", path, 0)], NoPath)

    def test_a_file_on_the_way(self):
        for path in (("l", "a"), ("d", "x", "a"), ("y", "a", "b"), ("y", "d", "e", "f", "x"), ("l", "l")):
            self.each([("make", path), ("folder", path), ("link", path, ("n",)), ("drop", path),
                       ("move", path, ("n",)), ("put", path, 0, "x"), ("cut", path, 0)], Wrong)

    def test_what_is_met_first_is_told(self):
        # First a name that isn't there, then a name that would be a file; and the other way about.
        self.each([("make", ("a", "l", "x")), ("drop", ("d", "l", "x"))], NoPath)
        self.each([("make", ("l", "a", "x")), ("drop", ("d", "x", "q", "q"))], Wrong)

    def test_a_folder_where_a_file_is_asked(self):
        for path in (("d",), ("d", "e"), ("z",)):
            self.each([("link", path, ("n",)), ("put", path, 0, "x"), ("cut", path, 0), ("put", path, 2, "x")], Wrong)

    def test_something_is_there(self):
        for path in PATHS:
            self.each([("make", path), ("folder", path)], There)

    def test_other_likewise(self):
        tree = tree_of_deeds()
        for word in ("link", "move"):
            for path in (("y",), ("d", "x")):
                for other in (("a", "b"), ("d", "a", "x"), ("z", "z", "z")):
                    self.refused(tree, (word, path, other), NoPath, other)
                for other in (("l", "a"), ("d", "x", "a"), ("y", "a", "b")):
                    self.refused(tree, (word, path, other), Wrong, other)
                for other in PATHS:
                    self.refused(tree, (word, path, other), There, other)

    def test_of_a_folder_other_likewise(self):
        tree = tree_of_deeds()
        for path in (("z",), ("d", "e", "f"), ("d",)):
            self.refused(tree, ("move", path, ("a", "b")), NoPath, ("a", "b"))
            self.refused(tree, ("move", path, ("l", "a")), Wrong, ("l", "a"))
            for other in PATHS:
                self.refused(tree, ("move", path, other), There, other)

    def test_path_goes_ahead_of_other(self):
        tree = tree_of_deeds()
        others = [("a", "b"), ("l", "a"), ("y",), ("d", "e"), ("d", "n")]
        for word in ("link", "move"):
            for other in others:
                self.refused(tree, (word, ("q",), other), NoPath, ("q",))
                self.refused(tree, (word, ("z", "q"), other), NoPath, ("z", "q"))
                self.refused(tree, (word, ("l", "q"), other), Wrong, ("l", "q"))
        for other in others:
            self.refused(tree, ("link", ("d",), other), Wrong, ("d",))

    def test_a_folder_with_names_is_dropped(self):
        self.each([("drop", ("d",)), ("drop", ("d", "e"))], NotEmpty)
        tree = tree_of_deeds()
        tree.do(("drop", ("d", "e", "f")))
        tree.do(("drop", ("d", "e")))
        self.refused(tree, ("drop", ("d",)), NotEmpty, ("d",))
        tree.do(("drop", ("d", "x")))
        tree.do(("drop", ("d",)))
        self.assertEqual(tree.paths(), [("l",), ("y",), ("z",)])

    def test_a_folder_moved_into_itself_or_beneath(self):
        tree = tree_of_deeds()
        for other in (("d", "n"), ("d", "e", "n"), ("d", "e", "f", "n")):
            self.refused(tree, ("move", ("d",), other), Within, other)
        for other in (("d", "e", "n"), ("d", "e", "f", "n")):
            self.refused(tree, ("move", ("d", "e"), other), Within, other)
        self.refused(tree, ("move", ("z",), ("z", "z")), Within, ("z", "z"))
        tree.do(("move", ("d", "e"), ("d", "n")))
        tree.do(("move", ("d", "n"), ("e",)))
        tree.do(("move", ("e", "f"), ("f",)))
        self.assertEqual(tree.paths(), [("d",), ("d", "x"), ("e",), ("f",), ("l",), ("y",), ("z",)])

    def test_moved_to_where_it_stands(self):
        tree = tree_of_deeds()
        for path in PATHS:
            self.refused(tree, ("move", path, path), There, path)
        for path in (("d", "x"), ("l",), ("y",)):
            self.refused(tree, ("link", path, path), There, path)
        self.refused(tree, ("move", ("l",), ("d", "x")), There, ("d", "x"))

    def test_other_goes_ahead_of_within(self):
        tree = tree_of_deeds()
        self.refused(tree, ("move", ("d",), ("d", "e")), There, ("d", "e"))
        self.refused(tree, ("move", ("d",), ("d", "x")), There, ("d", "x"))
        self.refused(tree, ("move", ("d",), ("d", "n", "m")), NoPath, ("d", "n", "m"))
        self.refused(tree, ("move", ("d",), ("d", "x", "m")), Wrong, ("d", "x", "m"))

    def test_a_file_is_never_within(self):
        tree = tree_of_deeds()
        tree.do(("move", ("l",), ("d", "l")))
        tree.do(("move", ("d", "l"), ("d", "m")))
        tree.do(("move", ("d", "m"), ("d", "e", "f", "m")))
        self.assertEqual(tree.names(("d", "e", "f")), ["m"])

    def test_no_such_part(self):
        tree = tree_of_deeds()
        for path, pages in ((("y",), 0), (("l",), 2)):
            for k in range(pages + 1, 3):
                self.refused(tree, ("put", path, k, "x"), NoPart, k)
            for many in range(pages + 1, 4):
                self.refused(tree, ("cut", path, many), NoPart, many)
        tree.do(("put", ("y",), 0, "x"))
        self.refused(tree, ("put", ("y",), 2, "x"), NoPart, 2)
        self.refused(tree, ("cut", ("y",), 2), NoPart, 2)
        tree.do(("cut", ("y",), 1))
        self.assertEqual(tree.read(("y",)), ["x"])

    def test_path_goes_ahead_of_part(self):
        tree = tree_of_deeds()
        for word in (("put", ("q",), 2, "x"), ("cut", ("q",), 3), ("put", ("z", "q"), 1, ""), ("cut", ("q", "y"), 3)):
            self.refused(tree, word, NoPath, word[1])
        for word in (("put", ("y", "q"), 2, "x"), ("cut", ("d",), 3), ("put", ("z",), 1, "")):
            self.refused(tree, word, Wrong, word[1])


class TwoPlaces(TreeTest):
    def test_paths_through_both(self):
        tree = two_places()
        self.assertEqual(tree.paths(), [
            ("a",), ("a", "s"), ("a", "s", "g"), ("a", "s", "u"), ("a", "s", "u", "h"),
            ("b",), ("b", "s"), ("b", "s", "g"), ("b", "s", "u"), ("b", "s", "u", "h"), ("c",),
        ])
        self.assertEqual(tree.names(("a", "s")), tree.names(("b", "s")))
        self.assertEqual(tree.read(("a", "s", "u", "h")), ["text"])

    def test_a_name_in_a_folder_at_two_places_is_one(self):
        tree = two_places()
        for path in (("a", "s", "g"), ("b", "s", "g"), ("a", "s", "u", "h"), ("b", "s", "u", "h")):
            self.assertEqual(tree.many_names(path), 2)
        tree.do(("drop", ("b", "s", "u", "h")))
        self.assertEqual(tree.many_names(("a", "s", "g")), 1)
        self.refused(tree, ("drop", ("a", "s", "u", "h")), NoPath, ("a", "s", "u", "h"))
        tree.do(("link", ("b", "s", "g"), ("h",)))
        self.assertEqual([tree.many_names(path) for path in (("h",), ("a", "s", "g"))], [2, 2])

    def test_deeds_at_one_place_are_seen_at_both(self):
        tree = two_places()
        tree.do(("make", ("a", "s", "n")))
        tree.do(("put", ("b", "s", "n"), 0, "new"))
        tree.do(("cut", ("b", "s", "g"), 0))
        self.refused(tree, ("make", ("b", "s", "n")), There, ("b", "s", "n"))
        self.assertEqual(tree.read(("a", "s", "n")), ["new"])
        self.assertEqual(tree.read(("a", "s", "u", "h")), [])
        self.assertEqual(tree.many_names(("a", "s", "n")), 1)

    def test_one_place_is_left(self):
        tree = two_places()
        tree.do(("move", ("a", "s"), ("c", "s")))
        self.assertEqual([path for path in tree.paths() if "s" in path and len(path) == 2], [("b", "s"), ("c", "s")])
        self.refused(tree, ("drop", ("b", "s")), NotEmpty, ("b", "s"))
        tree.do(("move", ("c", "s"), ("b", "t")))
        self.assertEqual(tree.names(("b",)), ["s", "t"])
        tree.do(("drop", ("a",)))
        for name in ("g", "u"):
            if name == "u":
                tree.do(("drop", ("b", "s", "u", "h")))
            tree.do(("drop", ("b", "t", name)))
        tree.do(("drop", ("b", "t")))
        self.assertEqual(tree.paths(), [("b",), ("b", "s"), ("c",)])
        self.assertEqual(tree.names(("b", "s")), [])
        tree.do(("drop", ("b", "s")))
        self.assertEqual(tree.paths(), [("b",), ("c",)])

    def test_within_by_whatever_names(self):
        tree = two_places()
        for path in (("a", "s"), ("b", "s")):
            for other in (("a", "s", "n"), ("b", "s", "n"), ("a", "s", "u", "n"), ("b", "s", "u", "n")):
                self.refused(tree, ("move", path, other), Within, other)
        for path in (("a",), ("b",)):
            for other in (("a", "s", "n"), ("b", "s", "n"), ("b", "s", "u", "n")):
                self.refused(tree, ("move", path, other), Within, other)
        self.refused(tree, ("move", ("a", "s", "u"), ("b", "s", "u", "n")), Within, ("b", "s", "u", "n"))
        tree.do(("move", ("a",), ("b", "n")))
        self.assertEqual(tree.names(("b", "n", "s")), ["g", "u"])
        tree.do(("move", ("b", "s", "u"), ("c", "u")))
        self.assertEqual(tree.names(("b", "n", "s")), ["g"])

    def test_a_file_at_two_places(self):
        tree = Tree()
        tree.filled({0: "folder", 9: "file", 3: "folder"}, {9: ["x"]}, {0: {"a": 9, "b": 9, "d": 3}, 3: {"c": 9}})
        self.assertEqual(tree.many_names(("a",)), 3)
        tree.do(("put", ("d", "c"), 1, "y"))
        self.assertEqual([tree.read(path) for path in (("a",), ("b",))], [["x", "y"]] * 2)

    def test_filled_in_place_of_what_was_there(self):
        tree = tree_of_deeds()
        self.assertIsNone(tree.filled({0: "folder", 1: "file"}, {1: []}, {0: {"a": 1}}))
        self.assertEqual(all_told(tree), {(): ("folder", ["a"]), ("a",): ("file", [], 1)})
        tree.filled(kids={0: {}}, texts={}, kinds={0: "folder"})
        self.assertEqual(tree, Tree())

    def test_numbers_of_any_size_and_order(self):
        numbers = [SIXTY_FIGURES, 1, SIXTY_FIGURES - 1, 17]
        kinds = {numbers[0]: "folder", numbers[1]: "file", numbers[2]: "folder", numbers[3]: "file", 0: "folder"}
        texts = {numbers[3]: ["x"], numbers[1]: []}
        kids = {numbers[2]: {"f": numbers[3]}, 0: {"d": numbers[0], "a": numbers[1]}, numbers[0]: {"e": numbers[2]}}
        tree = Tree()
        tree.filled(kinds, texts, kids)
        for k in range(5):
            tree.do(("make", ("n" + "a" * k,)))
            tree.do(("folder", ("d", "n" + "a" * k)))
        self.assertEqual(tree.read(("d", "e", "f")), ["x"])
        self.assertEqual(tree.read(("a",)), [])
        self.assertEqual(tree.names(("d",)), ["e", "n", "na", "naa", "naaa", "naaaa"])
        self.assertEqual(tree.many_names(("n",)), 1)

    def test_what_it_is_filled_with_is_not_kept(self):
        kinds, texts, kids = {0: "folder", 1: "file", 2: "folder"}, {1: ["x"]}, {0: {"a": 1, "d": 2}, 2: {}}
        before = copy.deepcopy((kinds, texts, kids))
        tree = Tree()
        tree.filled(kinds, texts, kids)
        told = all_told(tree)
        for deed in (("put", ("a",), 0, "y"), ("put", ("a",), 1, "z"), ("make", ("d", "n")), ("folder", ("n",))):
            tree.do(deed)
        tree.do(("drop", ("a",)))
        self.assertEqual((kinds, texts, kids), before)
        tree.filled(kinds, texts, kids)
        kinds.clear()
        texts[1].append("y")
        texts[3] = []
        kids[0]["b"] = 1
        kids[2] = {"c": 1}
        self.assertEqual(all_told(tree), told)


class Copies(TreeTest):
    def test_alike_and_by_itself(self):
        for tree in (Tree(), tree_of_deeds(), two_places()):
            twin = tree.copy()
            self.assertIsInstance(twin, Tree)
            self.assertIsNot(twin, tree)
            self.assertEqual(all_told(twin), all_told(tree))
            self.assertEqual(twin, tree)

    def test_what_is_done_to_one_changes_nothing_of_the_other(self):
        deeds = [("put", ("l",), 0, "new"), ("cut", ("l",), 1), ("make", ("z", "a")), ("drop", ("y",)),
                 ("move", ("d", "e"), ("z", "e")), ("link", ("l",), ("d", "n")), ("folder", ("q",)), ("drop", ("l",))]
        for changed in (0, 1):
            tree = tree_of_deeds()
            pair = [tree, tree.copy()]
            before = all_told(tree)
            for deed in deeds:
                pair[changed].do(deed)
                self.assertEqual(all_told(pair[1 - changed]), before)
                self.assertNotEqual(pair[0], pair[1])
            pair[1 - changed].do(("make", ("q",)))
            self.assertEqual(pair[changed].sort_at(("q",)), "folder")

    def test_a_copy_of_things_at_two_places_has_them_at_two_places(self):
        twin = two_places().copy()
        twin.do(("make", ("a", "s", "n")))
        self.assertEqual(twin.sort_at(("b", "s", "n")), "file")
        self.assertEqual(twin.many_names(("b", "s", "g")), 2)
        self.refused(twin, ("move", ("a",), ("b", "s", "m")), Within, ("b", "s", "m"))


class Alike(TreeTest):
    def alike(self, one, two, wanted):
        for left, right in ((one, two), (two, one)):
            self.assertIs(left == right, wanted)
            self.assertIs(left != right, not wanted)

    def test_made_in_another_order(self):
        self.alike(Tree(), Tree(), True)
        tree = tree_of_deeds()
        self.alike(tree, tree, True)
        order = [8, 7, 0, 3, 6, 4, 5, 1, 2]
        self.alike(tree, tree_of_deeds([DEEDS[at] for at in order]), True)
        ways_about = [("make", ("q",)), ("drop", ("q",)), ("folder", ("q",)), ("move", ("q",), ("z",))]
        other = tree_of_deeds(DEEDS[:-1] + ways_about)
        self.alike(tree, other, True)

    def test_each_deed_makes_it_unlike(self):
        tree = tree_of_deeds()
        for deed in (("make", ("n",)), ("folder", ("n",)), ("folder", ("d", "e", "f", "n")), ("link", ("y",), ("n",)),
                     ("drop", ("y",)), ("drop", ("z",)), ("drop", ("l",)), ("move", ("y",), ("n",)),
                     ("move", ("z",), ("d", "z")), ("put", ("l",), 0, "other"), ("put", ("l",), 2, "three"),
                     ("put", ("y",), 0, ""), ("cut", ("l",), 1), ("cut", ("l",), 0)):
            other = tree_of_deeds(DEEDS + [deed])
            self.alike(tree, other, False)

    def test_a_file_without_pages_and_an_empty_folder(self):
        self.alike(tree_of_deeds([("make", ("a",))]), tree_of_deeds([("folder", ("a",))]), False)

    def test_pages_in_another_order(self):
        make, first, second_page = ("make", ("a",)), ("put", ("a",), 0, "x"), ("put", ("a",), 1, "y")
        other = [make, ("put", ("a",), 0, "y"), ("put", ("a",), 1, "x")]
        self.alike(tree_of_deeds([make, first, second_page]), tree_of_deeds(other), False)

    def test_linked_against_made_beside(self):
        for texts in ([], ["x"], ["x", "y"]):
            pages = [("put", ("a",), k, text) for k, text in enumerate(texts)]
            beside = [("put", ("b",), k, text) for k, text in enumerate(texts)]
            linked = tree_of_deeds([("make", ("a",)), *pages, ("link", ("a",), ("b",))])
            made = tree_of_deeds([("make", ("a",)), *pages, ("make", ("b",)), *beside])
            self.assertEqual(linked.paths(), made.paths())
            self.assertEqual(linked.read(("b",)), made.read(("b",)))
            self.alike(linked, made, False)
            self.alike(linked, tree_of_deeds([("make", ("b",)), *beside, ("link", ("b",), ("a",))]), True)

    def test_other_paths_lead_to_one_file(self):
        def files(*links):
            made = [("make", ("a",)), ("make", ("b",))]
            return tree_of_deeds(made + [("link", (old,), (new,)) for old, new in links])
        one = files(("a", "c"), ("b", "d"))
        self.alike(one, files(("a", "d"), ("b", "c")), False)
        self.alike(one, files(("a", "c"), ("a", "d")), False)
        self.alike(files(("a", "c"), ("c", "d")), files(("a", "c"), ("a", "d")), True)
        self.alike(files(("a", "c"), ("b", "d")), files(("b", "d"), ("a", "c")), True)

    def test_folders_at_two_places_against_two_folders(self):
        # The document asks for the same paths, pages, and paths to one file: of folders it asks no more.
        one = Tree()
        one.filled({0: "folder", 1: "folder"}, {}, {0: {"a": 1, "b": 1}, 1: {}})
        self.alike(one, tree_of_deeds([("folder", ("a",)), ("folder", ("b",))]), True)
        one.do(("make", ("a", "f")))
        both = [("folder", ("a",)), ("folder", ("b",)), ("make", ("a", "f"))]
        self.alike(one, tree_of_deeds(both + [("make", ("b", "f"))]), False)
        self.alike(one, tree_of_deeds(both + [("link", ("a", "f"), ("b", "f"))]), True)

    def test_other_numbers(self):
        one, two = Tree(), Tree()
        one.filled({0: "folder", 1: "folder", 2: "file"}, {2: ["x"]}, {0: {"a": 1}, 1: {"b": 2}})
        two.filled({0: "folder", 5: "file", 9: "folder"}, {5: ["x"]}, {0: {"a": 9}, 9: {"b": 5}})
        self.alike(one, two, True)
        self.alike(one, tree_of_deeds([("folder", ("a",)), ("make", ("a", "b")), ("put", ("a", "b"), 0, "x")]), True)

    def test_many_paths_to_the_same(self):
        # Fifteen folders, each four times in the one ahead: far too many paths to go one by one.
        def ladder(last):
            tree = Tree()
            kids = {at: {name: at + 1 for name in "abcd"} for at in range(14)}
            tree.filled({**{at: "folder" for at in range(15)}, 15: "file"}, {15: last}, {**kids, 14: {"f": 15}})
            return tree
        self.alike(ladder(["x"]), ladder(["x"]), True)
        self.alike(ladder(["x"]), ladder(["y"]), False)
        self.alike(ladder(["x"]), Tree(), False)
        self.assertEqual(ladder([]).many_names(tuple("abcdabcdabcdab") + ("f",)), 1)

    def test_like_nothing_else(self):
        class Other:
            def __eq__(self, other):
                return True

            __hash__ = None

        for tree in (Tree(), tree_of_deeds()):
            for thing in things_of_any_kind() + [(), Prickly(), Tree, [tree], (tree,), Other(), tree.paths(), "Tree"]:
                self.assertIs(tree == thing, False)
                self.assertIs(tree != thing, True)


class RowsOfDeeds(TreeTest):
    def played(self, chance, tree, root, many):
        """Random deeds on both, held against each other behind each; how many were refused, by error."""
        refused = {}
        for _ in range(many):
            deed = second.any_deed(chance, root)
            wanted = second.refusal(root, deed)
            if wanted is None:
                second.done(root, deed)
                self.assertIsNone(tree.do(deed))
            else:
                error, worth = wanted
                refused[error] = refused.get(error, 0) + 1
                self.refused(tree, deed, error, worth)
            self.assertEqual(tree.paths(), second.all_paths(root))
            self.assertEqual(all_told(tree), told_second(root))
        return refused

    def test_rows_from_nothing(self):
        met = {}
        for seed in range(60):
            for error, many in self.played(random.Random(seed), Tree(), {}, 50).items():
                met[error] = met.get(error, 0) + many
        for error in (NoPath, Wrong, There, NotEmpty, Within, NoPart):
            self.assertGreater(met.get(error, 0), 15, error)

    def test_rows_with_things_at_two_places(self):
        for seed in range(60):
            chance = random.Random(1000 + seed)
            file, deep, shared = ["x"], {}, {}
            shared.update({"a": file, "b": deep})
            root = {"a": {"c": shared}, "b": {"a": shared, "b": file}, "c": {}, "d": {"a": deep}}
            tree = Tree()
            numbers = chance.sample(range(1, 40), 39)
            tree.filled(*second.numbered(root, numbers))
            self.assertEqual(all_told(tree), told_second(root))
            self.played(chance, tree, root, 40)

    def test_alike_as_reckoned_by_paths(self):
        seen = []
        for seed in range(300):
            chance = random.Random(seed)
            trees = []
            for _ in range(2):
                tree, root = Tree(), {}
                for _ in range(5):
                    word = chance.choice(("make", "link", "folder", "drop"))
                    deed = (word, (chance.choice("ab"),), (chance.choice("ab"),))
                    deed = deed if word == "link" else deed[:2]
                    if second.refusal(root, deed) is None:
                        second.done(root, deed)
                        tree.do(deed)
                trees.append((tree, root))
            (one, first), (two, then) = trees
            paths = second.all_paths(first)
            wanted = told_second(first).keys() == told_second(then).keys() and all(
                second.is_folder(first[path[0]]) == second.is_folder(then[path[0]]) for path in paths)
            wanted = wanted and all(
                (first[p[0]] is first[q[0]]) == (then[p[0]] is then[q[0]]) for p in paths for q in paths)
            seen.append(wanted)
            self.assertIs(one == two, wanted)
        self.assertGreater(min(seen.count(True), seen.count(False)), 20)


if __name__ == "__main__":
    unittest.main()
