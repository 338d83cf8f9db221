"""Wishes that something be on the disk: point [15], with [6], [11] and [12]."""

import random
import unittest

from tests.systems import any_deed, any_first, any_page, refused, state
from tests.test_changes import elder_ones, leans_within
from tests.things import things_of_any_kind
from writeorders.errors import NoPath, Wrong
from writeorders.images import first_image
from writeorders.looker import breaks, come_to, names_of
from writeorders.stops import tree_of
from writeorders.system import System
from writeorders.wishes import wish

FIRST = first_image(8, 8)


def system_of(*deeds, clean=False, image=FIRST):
    system = System(image)
    for deed in deeds:
        system.do(deed)
    if clean:
        system.clean()
    return system


def wanted_by_words(system, path):
    """The numbers of the changes that are wanted, as point [15] says it word by word."""
    left = system.unwritten()
    if path is None:
        return [change[0] for change in left]
    image = system.memory()
    first = 1 + -(-len(image[1]) // 4)
    node, places = 0, set()
    for name in path:
        for page in image[1][node][2]:
            slots = image[2][page]
            places |= {(first + page, at) for at in range(1, 5) if slots[at] and slots[at][0] == name}
        node = [kid for own, kid in names_of(image, node) if own == name][0]
    places.add((1 + node // 4, node % 4))
    for page in image[1][node][2]:
        places.add((0, page))
        places |= {(first + page, at) for at in range(5)}
    wanted = {change[0] for change in left if any((change[1], slot) in places for slot, _ in change[2])}
    while True:
        more = set(wanted)
        for change in left:
            if change[0] in wanted:
                more |= leans_within(change, left) | elder_ones(change, left)
        if more == wanted:
            return sorted(wanted)
        wanted = more


def wished_by_words(system, path):
    """Write a twin as the wish is told; the pages, and the twin."""
    twin, wanted, pages = system.twin(), wanted_by_words(system, path), []
    while any(not twin.is_written(number) for number in wanted):
        least = min(number for number in wanted if not twin.is_written(number))
        pages.append(twin.changes()[least][1])
        twin.write(pages[-1])
    return pages, twin


class WishTest(unittest.TestCase):
    def wishes(self, system, path, *pages):
        wanted, twin = wished_by_words(system, path)
        self.assertEqual(wanted, list(pages))
        told = wish(system, path)
        self.assertEqual(told, list(pages))
        self.assertIsInstance(told, list)
        self.assertEqual(state(system), state(twin))
        self.is_there(system, path)

    def is_there(self, system, path):
        """The disk tells at the path the sort and the pages that memory tells."""
        self.assertEqual(breaks(system.disk()), [])
        tree = tree_of(system.disk())
        for one in system.paths() if path is None else [path]:
            self.assertEqual(tree.sort_at(one), system.sort_at(one))
            if system.sort_at(one) == "file":
                self.assertEqual(tree.read(one), system.read(one))


class Wishes(WishTest):
    def test_of_a_clean_system_none(self):
        self.wishes(system_of(), ())
        self.wishes(system_of(), None)
        system = system_of(("make", ("a",)), ("put", ("a",), 0, "x"), clean=True)
        for path in ((), ("a",), None):
            self.wishes(system, path)
        self.assertEqual(wish(system), [])

    def test_a_file(self):
        self.wishes(system_of(("make", ("a",))), ("a",), 0, 3, 1, 3)
        self.wishes(system_of(("make", ("a",)), ("put", ("a",), 0, "x")), ("a",), 0, 3, 1, 3, 4, 1)

    def test_of_what_else_is_unwritten_nothing(self):
        system = system_of(("folder", ("d",)), ("make", ("d", "x")), ("make", ("y",)), clean=True)
        system.do(("put", ("d", "x"), 0, "text"))
        system.do(("put", ("y",), 0, "other"))
        self.wishes(system, ("y",), 0, 6, 1)
        self.assertEqual([change[1] for change in system.unwritten()], [5, 1])
        self.assertEqual(tree_of(system.disk()).read(("d", "x")), [])

    def test_a_folder(self):
        # What is put in the folder is wanted, for all slots of its pages are; what is in that is not.
        system = system_of(("folder", ("d",)), ("make", ("d", "x")), ("put", ("d", "x"), 0, "text"))
        self.wishes(system, ("d",), 0, 3, 1, 3, 4, 1, 4)
        self.assertEqual(tree_of(system.disk()).names(("d",)), ["x"])
        self.assertEqual([change[1] for change in system.unwritten()], [5, 1])
        self.wishes(system, ("d", "x"), 5, 1)

    def test_the_first_folder(self):
        system = system_of(("make", ("a",)), ("put", ("a",), 0, "x"))
        self.wishes(system, (), 0, 3, 1, 3)
        self.assertEqual(tree_of(system.disk()).read(("a",)), [])

    def test_all(self):
        system = system_of(("make", ("a",)), ("put", ("a",), 0, "x"))
        self.wishes(system, None, 0, 3, 1, 3, 4, 1)
        self.assertEqual(system.unwritten(), [])

    def test_what_comes_of_the_writings_is_not_wanted(self):
        for path in (None, ()):
            system = system_of(("make", ("a",)), ("put", ("a",), 0, "x"), clean=True)
            system.do(("drop", ("a",)))
            self.wishes(system, path, 3)
            self.assertEqual([change[1:3] for change in system.unwritten()], [(1, ((1, None),))])
            self.wishes(system, None, 1)
            self.wishes(system, None, 0)
            self.wishes(system, None)

    def test_a_path_may_go_by_its_name(self):
        system, other = system_of(("make", ("a",))), system_of(("make", ("a",)))
        self.assertEqual(wish(system=system, path=("a",)), [0, 3, 1, 3])
        self.assertEqual(wish(other), [0, 3, 1, 3])

    def test_paths_that_are_not_there(self):
        system = system_of(("folder", ("d",)), ("make", ("d", "x")))
        things = [thing for thing in things_of_any_kind() if thing is not None]
        for thing in things + [("a",), ("d", "y"), ("x",), ["d"], ("d", ["x"]), ("D",), ("d", 1)]:
            before = state(system)
            with self.assertRaises(NoPath) as held:
                wish(system, thing)
            self.assertIs(held.exception.path, thing)
            self.assertEqual(state(system), before)

    def test_through_a_file(self):
        system = system_of(("folder", ("d",)), ("make", ("d", "x")))
        before, path = state(system), ("d", "x", "y")
        with self.assertRaises(Wrong) as held:
            wish(system, path)
        self.assertIs(held.exception.path, path)
        self.assertEqual(state(system), before)

    def test_folders_on_the_way_that_were_moved(self):
        system = system_of(("folder", ("d",)), ("folder", ("e",)), ("make", ("d", "x")), clean=True)
        system.do(("put", ("d", "x"), 0, "text"))
        system.do(("move", ("d",), ("e", "f")))
        path = ("e", "f", "x")
        pages, _ = wished_by_words(system, path)
        self.wishes(system, path, *pages)
        # The folder is seen at both places now: the name struck wasn't wanted.
        self.assertEqual(tree_of(system.disk()).read(("d", "x")), ["text"])

    def test_a_name_made_anew(self):
        system = system_of(("make", ("a",)), ("put", ("a",), 0, "old"), clean=True)
        system.do(("drop", ("a",)))
        system.do(("make", ("a",)))
        system.do(("put", ("a",), 0, "new"))
        pages, _ = wished_by_words(system, ("a",))
        self.wishes(system, ("a",), *pages)
        self.assertEqual(tree_of(system.disk()).read(("a",)), ["new"])

    def test_files_with_several_names_and_pages(self):
        system = system_of(("make", ("a",)), ("folder", ("d",)), clean=True)
        for deed in (("put", ("a",), 0, "x"), ("put", ("a",), 1, "y"), ("link", ("a",), ("d", "b")),
                     ("put", ("a",), 2, "z"), ("cut", ("a",), 2), ("put", ("a",), 0, "w")):
            system.do(deed)
        twin = system.twin()
        pages, _ = wished_by_words(system, ("a",))
        self.wishes(system, ("a",), *pages)
        self.assertEqual(tree_of(system.disk()).names(("d",)), [])
        pages, _ = wished_by_words(twin, ("d", "b"))
        self.wishes(twin, ("d", "b"), *pages)
        self.assertEqual(tree_of(twin.disk()).many_names(("a",)), 2)

    def test_a_text_put_again_and_again(self):
        system = system_of(("make", ("a",)), ("put", ("a",), 0, "x"), clean=True)
        for text in "abc":
            system.do(("put", ("a",), 0, text))
        self.wishes(system, ("a",), 4)

    def test_bits_are_wanted_whatever_leans_on_them(self):
        for without, pages in (((), [0, 3, 1, 3]), (("taken",), [0, 3, 1, 3])):
            system = System(FIRST, without=without)
            system.do(("make", ("a",)))
            self.assertEqual(wish(system, ()), pages)
        system = System(FIRST, without=("taken",))
        system.do(("make", ("a",)))
        # The file has no page, and nothing of it leans on the bit of its folder's.
        self.assertEqual(wish(system, ("a",)), [3, 1, 3])

    def test_told_lists_are_new(self):
        system = system_of(("make", ("a",)))
        wish(system, ("a",)).append("new")
        self.assertEqual(wish(system, ("a",)), [])


class ByChance(WishTest):
    def test_rows_of_deeds_writings_and_wishes(self):
        chance = random.Random(101)
        for _ in range(150):
            system = System(any_first(chance))
            for _ in range(30):
                refused(system, any_deed(chance, system))
                if chance.random() < 0.3:
                    system.write(any_page(chance, system))
                if chance.random() < 0.15:
                    path = chance.choice([None, ()] + system.paths())
                    pages, _ = wished_by_words(system, path)
                    self.wishes(system, path, *pages)

    def test_what_was_wished_stays_by_a_name(self):
        """A file wished is come to on the disk as long as a name of it stands in memory, with the pages it had."""
        chance = random.Random(102)
        for _ in range(150):
            system = System(any_first(chance))
            for _ in range(25):
                refused(system, any_deed(chance, system))
            files = [path for path in system.paths() if system.sort_at(path) == "file"]
            if not files:
                continue
            path = chance.choice(files)
            wish(system, path)
            node, pages = system.node_of(path), system.read(path)
            for _ in range(30):
                deed = any_deed(chance, system)
                if deed[0] in ("put", "cut"):
                    continue
                refused(system, deed)
                memory = system.memory()
                if not any(kid == node for one in come_to(memory) for _, kid in names_of(memory, one)):
                    break
                system.write(any_page(chance, system))
                disk = system.disk()
                self.assertIn(node, come_to(disk))
                self.assertEqual([disk[2][page][1] for page in disk[1][node][2]], pages)

    def test_behind_a_wish_for_all(self):
        chance = random.Random(103)
        for _ in range(40):
            system = System(any_first(chance))
            for _ in range(25):
                refused(system, any_deed(chance, system))
            tree, left = system.tree(), system.unwritten()
            self.assertLessEqual(len(wish(system)), len(left))
            self.assertTrue(all(system.is_written(change[0]) for change in left))
            self.assertEqual(tree_of(system.disk()).paths(), tree.paths())


if __name__ == "__main__":
    unittest.main()
