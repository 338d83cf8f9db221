"""The changes that deeds make, and what comes of their writings: points [11] and [12], with [13]."""

import random
import unittest

from tests.second_system import SecondSystem
from tests.small_images import file_page, folder_page, image_of
from tests.systems import any_deed, any_first, any_page, bit, file, filled, folder, named, node, refused, struck
from writeorders.errors import Full
from writeorders.images import first_image, is_image
from writeorders.looker import breaks
from writeorders.rules import RULES
from writeorders.system import System


class DeedsTest(unittest.TestCase):
    def begun(self, *deeds, image=None, clean=True):
        """A system that did these deeds, clean if not told otherwise; new is the number of its next change."""
        self.system = System(first_image(8, 8) if image is None else image)
        for deed in deeds:
            self.system.do(deed)
        if clean:
            self.system.clean()
        self.new = len(self.system.changes())

    def does(self, deed, *changes):
        """The deed makes just these changes, which are told with numbers from 0 on, behind the ones ahead."""
        first = self.new
        wanted = [
            (number + first, page, puts, tuple(lean + first for lean in leans)) for number, page, puts, leans in changes
        ]
        at = len(self.system.changes())
        self.assertEqual(self.system.do(deed), list(range(at, at + len(changes))))
        self.assertEqual(self.system.changes()[at:], wanted)
        self.assertEqual([row for row in self.system.unwritten() if row[0] >= at], wanted)
        self.assertTrue(is_image(self.system.memory()))

    def writes(self, page, *numbers):
        self.assertEqual(self.system.write(page), [number + self.new for number in numbers])

    def comes(self, *changes):
        """The last changes are just these."""
        told = [(number - self.new, page, puts, tuple(lean - self.new for lean in leans))
                for number, page, puts, leans in self.system.changes()]
        self.assertEqual(told[len(told) - len(changes):], list(changes))
        self.assertEqual(len(told), changes[-1][0] + 1 + self.new)


class Making(DeedsTest):
    def test_a_file_and_the_first_page_of_the_folder(self):
        self.begun()
        self.does(("make", ("a",)), bit(0, 0), filled(1, 0), node(2, 0, folder(1, 0), 0, 1), node(3, 1, file(1)),
                  named(4, 0, 1, "a", 1, 2, 3))
        self.does(("make", ("b",)), node(5, 2, file(1)), named(6, 0, 2, "b", 2, 2, 5))

    def test_a_folder(self):
        self.begun()
        self.does(("folder", ("a",)), bit(0, 0), filled(1, 0), node(2, 0, folder(1, 0), 0, 1), node(3, 1, folder(1)),
                  named(4, 0, 1, "a", 1, 2, 3))
        self.does(("make", ("a", "b")), bit(5, 1), filled(6, 1), node(7, 1, folder(1, 1), 5, 6), node(8, 2, file(1)),
                  named(9, 1, 1, "b", 2, 7, 8))

    def test_what_is_written_is_leant_on_no_more(self):
        self.begun(("make", ("a",)))
        self.does(("make", ("b",)), node(0, 2, file(1)), named(1, 0, 2, "b", 2, 0))
        self.does(("folder", ("c",)), node(2, 3, folder(1)), named(3, 0, 3, "c", 3, 2))
        self.does(("folder", ("d",)), node(4, 4, folder(1)), named(5, 0, 4, "d", 4, 4))

    def test_the_page_of_the_folder_is_leant_on_till_it_is_written(self):
        self.begun()
        self.does(("make", ("a",)), bit(0, 0), filled(1, 0), node(2, 0, folder(1, 0), 0, 1), node(3, 1, file(1)),
                  named(4, 0, 1, "a", 1, 2, 3))
        self.writes(0, 0)
        self.writes(3, 1)
        self.does(("make", ("b",)), node(5, 2, file(1)), named(6, 0, 2, "b", 2, 2, 5))
        self.writes(1, 2, 3, 5)
        self.does(("make", ("c",)), node(7, 3, file(1)), named(8, 0, 3, "c", 3, 7))

    def test_a_fifth_and_a_ninth_name_of_a_folder(self):
        self.begun(*[("make", (name,)) for name in "abcd"], image=first_image(16, 8))
        own = 1 + 16 // 4

        def page_of_names(number, page, pages):
            slots = (number + 1, own + page, filled(0, 0)[2], ())
            return bit(number, page), slots, node(number + 2, 0, folder(1, *pages), number, number + 1)

        self.does(("make", ("e",)), *page_of_names(0, 1, (0, 1)), node(3, 5, file(1)),
                  (4, own + 1, ((1, ("e", 5)),), (2, 3)))
        for at, name in enumerate("fgh"):
            self.system.do(("make", (name,)))
        self.system.clean()
        self.new = len(self.system.changes())
        self.does(("make", ("i",)), *page_of_names(0, 2, (0, 1, 2)), node(3, 9, file(1)),
                  (4, own + 2, ((1, ("i", 9)),), (2, 3)))
        for name in "jkl":
            self.system.do(("make", (name,)))
        self.assertEqual(self.system.names(()), list("abcdefghijkl"))

    def test_leasts_are_taken(self):
        self.begun(*[("make", (name,)) for name in "abcde"], ("put", ("b",), 0, "x"), ("put", ("d",), 0, "y"),
                   ("drop", ("b",)), ("drop", ("c",)))
        for _ in range(3):
            self.system.clean()
        self.new = len(self.system.changes())
        self.does(("make", ("f",)), node(0, 2, file(1)), named(1, 0, 2, "f", 2, 0))
        self.does(("make", ("g",)), node(2, 3, file(1)), named(3, 0, 3, "g", 3, 2))
        self.does(("make", ("h",)), node(4, 6, file(1)), named(5, 1, 2, "h", 6, 4))
        self.does(("put", ("h",), 0, "z"), bit(6, 2), filled(7, 2, "z"), node(8, 6, file(1, 2), 6, 7))
        self.does(("put", ("f",), 0, ""), bit(9, 4), filled(10, 4, ""), node(11, 2, file(1, 4), 9, 10))

    def test_a_name_struck_and_made_anew_in_the_same_folder(self):
        self.begun(("make", ("a",)), ("make", ("b",)))
        self.does(("drop", ("a",)), struck(0, 0, 1))
        self.does(("make", ("c",)), node(1, 3, file(1)), named(2, 0, 1, "c", 3, 1))
        self.does(("folder", ("a",)), node(3, 4, folder(1)), named(4, 0, 3, "a", 4, 0, 3))
        self.does(("drop", ("a",)), struck(5, 0, 3))
        self.does(("make", ("a",)), node(6, 5, file(1)), named(7, 0, 3, "a", 5, 0, 5, 6))
        self.writes(3, 0)
        self.does(("drop", ("b",)), struck(9, 0, 2))
        self.does(("link", ("a",), ("b",)), node(10, 5, file(2)), named(11, 0, 2, "b", 5, 9, 10))

    def test_the_same_name_in_another_folder(self):
        self.begun(("make", ("a",)), ("folder", ("d",)))
        self.does(("drop", ("a",)), struck(0, 0, 1))
        self.does(("make", ("d", "a")), bit(1, 1), filled(2, 1), node(3, 2, folder(1, 1), 1, 2), node(4, 3, file(1)),
                  named(5, 1, 1, "a", 3, 3, 4))

    def test_the_page_is_leant_on_by_which_the_folder_has_it(self):
        self.begun(*[("make", (name,)) for name in "abcd"], clean=False)
        self.new = 0
        self.assertEqual([row[3] for row in self.system.changes()[4::2]], [(2, 3), (2, 5), (2, 7), (2, 9)])
        self.does(("make", ("e",)), bit(11, 1), filled(12, 1), node(13, 0, folder(1, 0, 1), 11, 12),
                  node(14, 5, file(1)), named(15, 1, 1, "e", 5, 13, 14))
        self.does(("drop", ("a",)), struck(16, 0, 1))
        self.does(("make", ("f",)), node(17, 6, file(1)), named(18, 0, 1, "f", 6, 2, 17))


class Linking(DeedsTest):
    def test_a_name_more(self):
        self.begun(("make", ("a",)), ("put", ("a",), 0, "x"))
        self.does(("link", ("a",), ("b",)), node(0, 1, file(2, 1)), named(1, 0, 2, "b", 1, 0))
        self.does(("link", ("b",), ("c",)), node(2, 1, file(3, 1)), named(3, 0, 3, "c", 1, 2))

    def test_in_a_folder_that_needs_a_page(self):
        self.begun(("make", ("a",)), ("folder", ("d",)))
        self.does(("link", ("a",), ("d", "a")), bit(0, 1), filled(1, 1), node(2, 2, folder(1, 1), 0, 1),
                  node(3, 1, file(2)), named(4, 1, 1, "a", 1, 2, 3))
        self.does(("link", ("a",), ("d", "b")), node(5, 1, file(3)), named(6, 1, 2, "b", 1, 2, 5))

    def test_of_a_file_just_made(self):
        self.begun(("make", ("z",)))
        self.does(("make", ("a",)), node(0, 2, file(1)), named(1, 0, 2, "a", 2, 0))
        self.does(("link", ("a",), ("b",)), node(2, 2, file(2)), named(3, 0, 3, "b", 2, 2))


class Dropping(DeedsTest):
    def test_the_last_name_of_a_file(self):
        self.begun(("make", ("a",)))
        self.does(("drop", ("a",)), struck(0, 0, 1))

    def test_a_name_just_made(self):
        self.begun(("make", ("z",)))
        self.does(("make", ("a",)), node(0, 2, file(1)), named(1, 0, 2, "a", 2, 0))
        self.does(("drop", ("a",)), struck(2, 0, 2))

    def test_of_several_names_those_that_stay_are_leant_on(self):
        self.begun(("make", ("a",)), ("link", ("a",), ("b",)))
        self.does(("link", ("a",), ("c",)), node(0, 1, file(3)), named(1, 0, 3, "c", 1, 0))
        self.does(("link", ("a",), ("d",)), node(2, 1, file(4)), named(3, 0, 4, "d", 1, 2))
        self.does(("drop", ("c",)), struck(4, 0, 3, 3))
        self.does(("drop", ("a",)), struck(5, 0, 1, 3))
        self.does(("drop", ("d",)), struck(6, 0, 4))

    def test_names_that_are_written_are_not_leant_on(self):
        self.begun(("make", ("a",)), ("link", ("a",), ("b",)), ("link", ("a",), ("c",)))
        self.does(("drop", ("b",)), struck(0, 0, 2))
        self.does(("drop", ("a",)), struck(1, 0, 1))

    def test_the_names_of_folders_on_the_ways_are_leant_on(self):
        self.begun(("make", ("a",)), ("folder", ("d",)), ("make", ("d", "z")))
        self.does(("folder", ("d", "e")), node(0, 4, folder(1)), named(1, 1, 2, "e", 4, 0))
        self.does(("link", ("a",), ("d", "e", "b")), bit(2, 2), filled(3, 2), node(4, 4, folder(1, 2), 2, 3),
                  node(5, 1, file(2)), named(6, 2, 1, "b", 1, 4, 5))
        self.does(("drop", ("a",)), struck(7, 0, 1, 1, 6))
        self.does(("link", ("d", "e", "b"), ("d", "y")), node(8, 1, file(3)), named(9, 1, 3, "y", 1, 8))
        self.does(("drop", ("d", "y")), struck(10, 1, 3, 1, 6))

    def test_also_of_a_name_that_is_written(self):
        # /d is moved: the name /d/b of the file is on the disk, but the way to it is new.
        self.begun(("make", ("a",)), ("folder", ("d",)), ("link", ("a",), ("d", "b")))
        self.does(("move", ("d",), ("e",)), node(0, 2, folder(2, 1)), named(1, 0, 3, "e", 2, 0), struck(2, 0, 2, 1))
        self.does(("drop", ("a",)), struck(3, 0, 1, 1))

    def test_the_ways_to_a_name_that_goes_are_not_leant_on(self):
        self.begun(("make", ("a",)))
        self.does(("folder", ("d",)), node(0, 2, folder(1)), named(1, 0, 2, "d", 2, 0))
        self.does(("link", ("a",), ("d", "b")), bit(2, 1), filled(3, 1), node(4, 2, folder(1, 1), 2, 3),
                  node(5, 1, file(2)), named(6, 1, 1, "b", 1, 4, 5))
        self.does(("drop", ("d", "b")), struck(7, 1, 1))

    def test_a_folder(self):
        self.begun(("folder", ("d",)), ("make", ("d", "a")), ("make", ("d", "b")), ("make", ("d", "c")))
        self.does(("drop", ("d", "a")), struck(0, 1, 1))
        self.does(("move", ("d", "b"), ("b",)), node(1, 3, file(2)), named(2, 0, 2, "b", 3, 1), struck(3, 1, 2, 2))
        self.does(("drop", ("d", "c")), struck(4, 1, 3))
        self.does(("drop", ("d",)), struck(5, 0, 1, 0, 3, 4))

    def test_a_folder_of_which_some_strikings_are_written(self):
        self.begun(("folder", ("d",)), ("make", ("d", "a")), ("make", ("e",)), ("folder", ("f",)))
        self.does(("drop", ("d", "a")), struck(0, 1, 1))
        self.writes(4, 0)
        self.does(("make", ("d", "b")), node(2, 2, file(1)), named(3, 1, 1, "b", 2, 2))
        self.does(("drop", ("d", "b")), struck(4, 1, 1))
        self.does(("drop", ("d",)), struck(5, 0, 1, 4))
        self.does(("drop", ("f",)), struck(6, 0, 3))


class Moving(DeedsTest):
    def test_a_file(self):
        self.begun(("make", ("a",)), ("put", ("a",), 0, "x"))
        self.does(("move", ("a",), ("b",)), node(0, 1, file(2, 1)), named(1, 0, 2, "b", 1, 0), struck(2, 0, 1, 1))
        self.does(("move", ("b",), ("a",)), node(3, 1, file(3, 1)), named(4, 0, 1, "a", 1, 2, 3), struck(5, 0, 2, 4))

    def test_a_file_of_several_names(self):
        self.begun(("make", ("a",)))
        self.does(("link", ("a",), ("b",)), node(0, 1, file(2)), named(1, 0, 2, "b", 1, 0))
        self.does(("move", ("a",), ("c",)), node(2, 1, file(3)), named(3, 0, 3, "c", 1, 2), struck(4, 0, 1, 3))

    def test_the_names_of_the_folders_of_the_new_path_are_leant_on(self):
        self.begun(("make", ("a",)), ("folder", ("p",)), ("make", ("p", "z")))
        self.does(("folder", ("p", "n")), node(0, 4, folder(1)), named(1, 1, 2, "n", 4, 0))
        self.does(("move", ("a",), ("p", "n", "b")), bit(2, 2), filled(3, 2), node(4, 4, folder(1, 2), 2, 3),
                  node(5, 1, file(2)), named(6, 2, 1, "b", 1, 4, 5), struck(7, 0, 1, 1, 6))
        self.does(("move", ("p",), ("q",)), node(8, 2, folder(2, 1)), named(9, 0, 1, "q", 2, 8),
                  struck(10, 0, 2, 9))
        self.does(("move", ("q", "n", "b"), ("q", "c")), node(11, 1, file(3)), named(12, 1, 3, "c", 1, 11),
                  struck(13, 2, 1, 9, 12))

    def test_a_folder(self):
        self.begun(("folder", ("d",)), ("folder", ("e",)), ("make", ("e", "z")))
        self.does(("move", ("d",), ("e", "d")), node(0, 1, folder(2)), named(1, 1, 2, "d", 1, 0), struck(2, 0, 1, 1))

    def test_a_folder_moved_out_and_in(self):
        self.begun(("folder", ("a",)), ("folder", ("a", "b")), ("make", ("a", "b", "z")))
        self.does(("move", ("a", "b"), ("b",)), node(0, 2, folder(2, 2)), named(1, 0, 2, "b", 2, 0), struck(2, 1, 1, 1))
        # The own folder of the new name is /b, to which the name struck in /a led.
        self.does(("move", ("a",), ("b", "a")), node(3, 1, folder(2, 1)), named(4, 2, 2, "a", 1, 2, 3),
                  struck(5, 0, 1, 1, 4))
        self.does(("move", ("b", "a"), ("a",)), node(6, 1, folder(3, 1)), named(7, 0, 1, "a", 1, 5, 6),
                  struck(8, 2, 2, 7))

    def test_below_another_one_that_was_moved(self):
        # /a/c/b: c is moved out, and a then into b, which stands in c.
        self.begun(("folder", ("a",)), ("folder", ("a", "c")), ("folder", ("a", "c", "b")),
                   ("make", ("a", "c", "b", "z")), ("folder", ("f",)))
        self.does(("move", ("a", "c"), ("c",)), node(0, 2, folder(2, 2)), named(1, 0, 3, "c", 2, 0), struck(2, 1, 1, 1))
        self.does(("move", ("a",), ("c", "b", "a")), node(3, 1, folder(2, 1)), named(4, 3, 2, "a", 1, 2, 3),
                  struck(5, 0, 1, 1, 4))
        # A file's new name leans on no strikings of folders, nor does that of a folder that goes elsewhere.
        self.does(("move", ("c", "b", "z"), ("c", "z")), node(6, 4, file(2)), named(7, 2, 2, "z", 4, 6),
                  struck(8, 3, 1, 1, 7))
        self.does(("move", ("f",), ("g",)), node(9, 5, folder(2)), named(10, 0, 1, "g", 5, 9), struck(11, 0, 2, 10))

    def test_strikings_of_files_are_leant_on_by_no_folder(self):
        self.begun(("folder", ("a",)), ("folder", ("b",)), ("make", ("b", "x")), ("make", ("b", "y")))
        self.does(("move", ("b", "x"), ("x",)), node(0, 3, file(2)), named(1, 0, 3, "x", 3, 0), struck(2, 1, 1, 1))
        self.does(("move", ("a",), ("b", "a")), node(3, 1, folder(2)), named(4, 1, 1, "a", 1, 3), struck(5, 0, 1, 4))

    def test_a_folder_in_a_folder_that_needs_a_page(self):
        self.begun(("folder", ("d",)), ("folder", ("e",)))
        self.does(("move", ("d",), ("e", "d")), bit(0, 1), filled(1, 1), node(2, 2, folder(1, 1), 0, 1),
                  node(3, 1, folder(2)), named(4, 1, 1, "d", 1, 2, 3), struck(5, 0, 1, 4))


class AtTwoPlaces(DeedsTest):
    # /p/g and /q/g are one folder, with a file g/x; /e is an empty folder at two places, /e and /p/e.
    IMAGE = image_of(
        [folder(1, 0), folder(1, 1), folder(1, 2), folder(2, 3), file(1), folder(2), None, None],
        [folder_page("p1", "q2", "e5"), folder_page("g3", "e5"), folder_page("g3"), folder_page("x4")]
        + [(None,) * 5] * 3,
    )

    def test_what_is_done_by_one_path_is_seen_by_the_other(self):
        self.begun(image=self.IMAGE)
        self.does(("put", ("p", "g", "x"), 0, "text"), bit(0, 4), filled(1, 4, "text"), node(2, 4, file(1, 4), 0, 1))
        self.assertEqual(self.system.read(("q", "g", "x")), ["text"])
        self.assertEqual(self.system.many_names(("q", "g", "x")), 1)
        self.does(("make", ("q", "g", "y")), node(3, 6, file(1)), named(4, 3, 2, "y", 6, 3))
        self.assertEqual(self.system.names(("p", "g")), ["x", "y"])

    def test_one_of_its_names_is_moved(self):
        self.begun(image=self.IMAGE)
        self.does(("move", ("q", "g"), ("r",)), node(0, 3, folder(3, 3)), named(1, 0, 4, "r", 3, 0), struck(2, 2, 1, 1))
        # All names of the folder stay on the ways to a name in it.
        self.does(("link", ("p", "g", "x"), ("y",)), bit(3, 4), filled(4, 4), node(5, 0, folder(1, 0, 4), 3, 4),
                  node(6, 4, file(2)), named(7, 4, 1, "y", 4, 5, 6))
        self.does(("drop", ("y",)), struck(8, 4, 1, 1))
        # So do they where a file is moved into it, by whatever path.
        self.does(("make", ("z",)), node(9, 6, file(1)), named(10, 4, 1, "z", 6, 5, 9))
        self.does(("move", ("z",), ("p", "g", "z")), node(11, 6, file(2)), named(12, 3, 2, "z", 6, 11),
                  struck(13, 4, 1, 1, 12))

    def test_one_of_its_names_is_dropped(self):
        self.begun(image=self.IMAGE)
        self.does(("drop", ("e",)), struck(0, 0, 3))
        self.writes(3, 0)
        self.comes(node(1, 5, folder(1)))
        self.assertEqual(self.system.sort_at(("p", "e")), "folder")
        self.does(("drop", ("p", "e")), struck(2, 1, 2))
        self.writes(4, 2)
        self.comes(node(3, 5, None))

    def test_the_ways_to_the_name_of_a_folder_that_stays(self):
        self.begun(image=self.IMAGE)
        self.does(("move", ("p",), ("s",)), node(0, 1, folder(2, 1)), named(1, 0, 4, "s", 1, 0), struck(2, 0, 1, 1))
        self.does(("drop", ("e",)), struck(3, 0, 3, 1))

    def test_strikings_of_names_of_all_folders_above(self):
        self.begun(image=self.IMAGE)
        self.does(("move", ("p",), ("s",)), node(0, 1, folder(2, 1)), named(1, 0, 4, "s", 1, 0), struck(2, 0, 1, 1))
        self.does(("folder", ("h",)), node(3, 6, folder(1)), named(4, 0, 1, "h", 6, 3))
        # The path goes by /q, but the folder g is come to from the one that was /p, too.
        self.does(("move", ("h",), ("q", "g", "h")), node(5, 6, folder(2)), named(6, 3, 2, "h", 6, 2, 5),
                  struck(7, 0, 1, 6))


class PuttingAndCutting(DeedsTest):
    def test_put(self):
        self.begun(("make", ("a",)))
        self.does(("put", ("a",), 0, "x"), bit(0, 1), filled(1, 1, "x"), node(2, 1, file(1, 1), 0, 1))
        self.does(("put", ("a",), 0, "y"), (3, 4, ((1, "y"),), ()))
        self.does(("put", ("a",), 1, ""), bit(4, 2), filled(5, 2, ""), node(6, 1, file(1, 1, 2), 4, 5))
        self.does(("put", ("a",), 2, "z" * 40), bit(7, 3), filled(8, 3, "z" * 40), node(9, 1, file(1, 1, 2, 3), 7, 8))
        self.does(("put", ("a",), 1, "w"), (10, 5, ((1, "w"),), ()))
        self.does(("put", ("a",), 1, "w"), (11, 5, ((1, "w"),), ()))

    def test_cut(self):
        self.begun(("make", ("a",)), *[("put", ("a",), k, "x") for k in range(3)])
        self.does(("cut", ("a",), 3))
        self.does(("cut", ("a",), 1), node(0, 1, file(1, 1)))
        self.does(("cut", ("a",), 1))
        self.does(("put", ("a",), 1, "y"), bit(1, 4), filled(2, 4, "y"), node(3, 1, file(1, 1, 4), 1, 2))
        self.does(("cut", ("a",), 0), node(4, 1, file(1)))
        self.writes(0, 1)
        self.writes(7, 2)
        self.writes(1, 0, 3, 4)
        self.comes(bit(5, 2, False), bit(6, 3, False), bit(7, 1, False), bit(8, 4, False))

    def test_of_none(self):
        self.begun(("make", ("a",)))
        self.does(("cut", ("a",), 0))


class Waiting(DeedsTest):
    def test_a_file_of_one_name_is_let_go(self):
        self.begun(("make", ("a",)), ("make", ("b",)), ("put", ("a",), 0, "x"), ("put", ("a",), 1, "y"))
        self.does(("drop", ("a",)), struck(0, 0, 1))
        self.writes(0)
        self.writes(1)
        self.assertEqual(len(self.system.unwritten()), 1)
        self.writes(3, 0)
        self.comes(node(1, 1, None))
        self.assertEqual(self.system.memory()[0][:4], (True, True, True, False))
        self.writes(1, 1)
        self.comes(bit(2, 1, False), bit(3, 2, False))
        self.assertEqual(self.system.memory()[0][:4], (True, False, False, False))
        self.assertEqual(self.system.disk()[0][:4], (True, True, True, False))
        self.writes(0, 2, 3)
        self.assertEqual(self.system.unwritten(), [])
        self.assertEqual(len(self.system.changes()), self.new + 4)

    def test_pages_are_freed_rising(self):
        image = image_of([folder(1, 2), file(1, 4, 0, 3), None, None, None],
                         [file_page("b"), (None,) * 5, folder_page("a1"), file_page("c"), file_page("a")])
        self.begun(image=image)
        self.does(("drop", ("a",)), struck(0, 2, 1))
        self.writes(5, 0)
        self.writes(1, 1)
        self.comes(bit(2, 0, False), bit(3, 3, False), bit(4, 4, False))

    def test_a_file_of_several_names_is_lowered(self):
        self.begun(("make", ("a",)), ("link", ("a",), ("b",)), ("link", ("a",), ("c",)), ("put", ("a",), 0, "x"))
        self.does(("drop", ("a",)), struck(0, 0, 1))
        self.does(("drop", ("c",)), struck(1, 0, 3))
        self.writes(3, 0, 1)
        self.comes(node(2, 1, file(2, 1)), node(3, 1, file(1, 1)))
        self.does(("drop", ("b",)), struck(4, 0, 2))
        self.writes(3, 4)
        self.comes(node(5, 1, None))
        self.writes(1, 2, 3, 5)
        self.comes(bit(6, 1, False))

    def test_behind_a_move(self):
        self.begun(("make", ("a",)), ("put", ("a",), 0, "x"))
        self.does(("move", ("a",), ("b",)), node(0, 1, file(2, 1)), named(1, 0, 2, "b", 1, 0), struck(2, 0, 1, 1))
        self.writes(3)
        self.writes(1, 0)
        self.writes(3, 1, 2)
        self.comes(node(3, 1, file(1, 1)))

    def test_a_page_written_again_brings_nothing(self):
        self.begun(("make", ("a",)))
        self.does(("drop", ("a",)), struck(0, 0, 1))
        self.writes(3, 0)
        disk = self.system.disk()
        for _ in range(3):
            self.writes(3)
            self.assertEqual(self.system.disk(), disk)
        self.comes(node(1, 1, None))

    def test_what_is_freed_is_taken_anew_no_sooner(self):
        self.begun(("make", ("a",)), ("put", ("a",), 0, "x"), ("make", ("b",)), image=first_image(5, 3))
        self.does(("drop", ("a",)), struck(0, 0, 1))
        self.does(("make", ("c",)), node(1, 3, file(1)), named(2, 0, 1, "c", 3, 1))
        self.writes(3, 0)
        self.comes(node(3, 1, None))
        # The node is free in memory now, its page not before the letting go is written.
        self.does(("make", ("d",)), node(4, 1, file(1)), named(5, 0, 3, "d", 1, 4))
        self.does(("put", ("b",), 0, "y"), bit(6, 2), filled(7, 2, "y"), node(8, 2, file(1, 2), 6, 7))
        self.assertEqual(refused(self.system, ("put", ("b",), 1, "z")), (Full, ["pages"]))
        self.writes(1, 1, 3, 4)
        self.comes(bit(9, 1, False))
        self.does(("put", ("b",), 1, "z"), bit(10, 1), filled(11, 1, "z"), node(12, 2, file(1, 2, 1), 10, 11))

    def test_a_dropped_folder_and_its_page(self):
        self.begun(("folder", ("d",)), ("make", ("d", "a")))
        self.does(("drop", ("d", "a")), struck(0, 1, 1))
        self.does(("drop", ("d",)), struck(1, 0, 1, 0))
        self.writes(3)
        self.writes(4, 0)
        self.comes(node(2, 2, None))
        self.writes(3, 1)
        self.comes(node(3, 1, None))
        self.writes(1, 2, 3)
        self.comes(bit(4, 1, False))

    def test_two_that_wait_for_one_writing_in_their_order(self):
        self.begun(("make", ("a",)), ("make", ("b",)), ("put", ("b",), 0, "x"), ("put", ("a",), 0, "y"))
        self.does(("drop", ("b",)), struck(0, 0, 2))
        self.does(("drop", ("a",)), struck(1, 0, 1))
        self.writes(3, 0, 1)
        self.comes(node(2, 2, None), node(3, 1, None))
        self.writes(1, 2, 3)
        self.comes(bit(4, 1, False), bit(5, 2, False))

    def test_links_that_leak_are_kept(self):
        image = image_of([folder(3, 0), file(4, 1), None, None, None], [folder_page("a1"), file_page("x"), (None,) * 5])
        self.begun(image=image)
        self.does(("drop", ("a",)), struck(0, 0, 1))
        self.writes(3, 0)
        self.comes(node(1, 1, file(3, 1)))


class Reckoned(unittest.TestCase):
    """Rows of deeds and writings by chance, held against the second reckoning, change by change."""

    def go(self, chance, without):
        image = any_first(chance)
        system, second = System(image, without=without), SecondSystem(image, without)
        often = chance.choice((0.1, 0.3, 0.6, 0.8))
        for _ in range(50):
            if chance.random() < often:
                page = any_page(chance, system)
                self.assertEqual(system.write(page), second.write(page))
            else:
                deed = any_deed(chance, system)
                self.assertEqual(refused(system, deed), refused(second, deed))
            self.assertEqual(system.changes(), second.changes)
            self.assertEqual(system.unwritten(), second.unwritten())
            self.assertEqual(system.memory(), second.memory())
            self.assertEqual(system.disk(), second.disk())
            self.assertEqual(breaks(system.memory()), [])

    def test_with_all_rules(self):
        chance = random.Random(71)
        for _ in range(250):
            self.go(chance, ())

    def test_without_one_or_some(self):
        chance = random.Random(72)
        for word in RULES:
            for _ in range(12):
                self.go(chance, (word,))
        for _ in range(60):
            self.go(chance, tuple(chance.sample(RULES, chance.randint(2, 10))))


if __name__ == "__main__":
    unittest.main()
