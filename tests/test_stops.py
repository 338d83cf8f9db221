"""What is there behind a stop: point [16], with [6], [7], [9] and [13]."""

import copy
import itertools
import random
import unittest

from tests.small_images import (
    EMPTY, any_image, come_to_by_words, file, file_page, folder, folder_page, image_of, links_by_words, many_images,
    names_by_words, sound_image,
)
from tests.systems import any_deed, any_first, refused
from tests.test_changes import closed_by_words
from tests.things import SIXTY_FIGURES
from writeorders.changes import closed_of, goes_along, is_closed, put_on
from writeorders.errors import Broken, There, Within, Wrong
from writeorders.images import disk_pages, first_image, is_image, slots_of, with_slots
from writeorders.looker import breaks, leaks
from writeorders.stops import put_by, tree_of, written_of
from writeorders.system import System
from writeorders.trees import Tree


def tree_of_deeds(deeds):
    tree = Tree()
    for deed in deeds:
        tree.do(deed)
    return tree


class TreeOf(unittest.TestCase):
    def told(self, image, deeds):
        self.assertIs(is_image(image), True)
        tree = tree_of(image)
        self.assertIsInstance(tree, Tree)
        self.assertEqual(tree, tree_of_deeds(deeds))
        self.assertEqual(tree_of(image=image), tree)
        return tree

    def test_first_images(self):
        for nodes, pages in ((2, 1), (3, 5), (16, 16)):
            self.told(first_image(nodes, pages), [])

    def test_files_and_folders(self):
        nodes = [folder(1, 2), file(1, 3, 0), folder(1), folder(1, 4, 1), file(2), None, file(1)]
        data = [
            file_page("second"), folder_page(None, "e4"), folder_page("a1", None, "b2", "c3"), file_page("first"),
            folder_page("d4", "f6"), EMPTY,
        ]
        tree = self.told(image_of(nodes, data), [
            ("make", ("a",)), ("put", ("a",), 0, "first"), ("put", ("a",), 1, "second"), ("folder", ("b",)),
            ("folder", ("c",)), ("make", ("c", "d")), ("link", ("c", "d"), ("c", "e")), ("make", ("c", "f")),
        ])
        self.assertEqual(tree.read(("a",)), ["first", "second"])
        self.assertEqual(tree.many_names(("c", "e")), 2)
        self.assertEqual(tree.names(("c",)), ["d", "e", "f"])

    def test_leaks_are_not_in_it(self):
        nodes = [folder(3, 0), file(7, 1), file(1, 2), folder(2, 3)]
        data = [folder_page("a1"), file_page("text"), file_page("leaked"), folder_page("b1", "c2", "d3"), EMPTY]
        taken, nodes, data = image_of(nodes, data)
        image = ((True,) * 5, nodes, data)
        self.assertEqual({row[0] for row in leaks(image)}, {"bit", "node", "links"})
        tree = self.told(image, [("make", ("a",)), ("put", ("a",), 0, "text")])
        self.assertEqual(tree.many_names(("a",)), 1)
        tree.do(("drop", ("a",)))
        self.assertEqual(tree, Tree())

    def test_a_folder_at_two_places(self):
        nodes = [folder(1, 0), folder(1, 1), folder(1, 2), folder(2, 3), file(1, 4), folder(1)]
        data = [folder_page("a1", "b2"), folder_page("s3"), folder_page("t3"), folder_page("g4", "u5"), file_page("x")]
        tree = tree_of(image_of(nodes, data))
        self.assertEqual(tree.paths(), [
            ("a",), ("a", "s"), ("a", "s", "g"), ("a", "s", "u"), ("b",), ("b", "t"), ("b", "t", "g"), ("b", "t", "u"),
        ])
        self.assertEqual(tree.many_names(("a", "s", "g")), 1)
        self.assertRaises(Within, tree.do, ("move", ("a",), ("b", "t", "n")))
        tree.do(("put", ("a", "s", "g"), 0, "y"))
        self.assertEqual(tree.read(("b", "t", "g")), ["y"])

    def test_a_file_at_two_places(self):
        nodes = [folder(1, 0), folder(1, 1), file(2, 2)]
        tree = self.told(image_of(nodes, [folder_page("a2", "d1"), folder_page("b2"), file_page("x")]), [
            ("make", ("a",)), ("put", ("a",), 0, "x"), ("folder", ("d",)), ("link", ("a",), ("d", "b")),
        ])
        self.assertEqual(tree.many_names(("a",)), 2)
        tree.do(("drop", ("a",)))
        self.assertEqual(tree.read(("d", "b")), ["x"])

    def test_the_tree_goes_on_by_itself(self):
        image = image_of([folder(1, 0), file(1, 1), folder(1)], [folder_page("a1", "d2"), file_page("x")])
        before = copy.deepcopy(image)
        tree = tree_of(image)
        for deed in (("put", ("a",), 0, "y"), ("make", ("b",)), ("folder", ("c",)), ("move", ("a",), ("d", "a"))):
            tree.do(deed)
        self.assertRaises(There, tree.do, ("make", ("b",)))
        self.assertRaises(Wrong, tree.do, ("put", ("d",), 0, ""))
        self.assertEqual(tree.paths(), [("b",), ("c",), ("d",), ("d", "a")])
        self.assertEqual(image, before)
        self.assertEqual(tree_of(image).paths(), [("a",), ("d",)])

    def test_as_the_words_say(self):
        for image in many_images(sound_image, 21, 300):
            tree = tree_of(image)
            told = {}
            ahead = [((), 0)]
            while ahead:
                path, node = ahead.pop()
                told[path] = node
                ahead += [(path + (name,), kid) for name, kid in names_by_words(image, node)]
            self.assertEqual(tree.paths(), sorted(told)[1:])
            for path, node in told.items():
                kind, _, pages = image[1][node]
                self.assertEqual(tree.sort_at(path), kind)
                if kind == "file":
                    self.assertEqual(tree.read(path), [image[2][page][1] for page in pages])
                    self.assertEqual(tree.many_names(path), links_by_words(image, node))
                else:
                    self.assertEqual(tree.names(path), sorted(name for name, _ in names_by_words(image, node)))
            self.assertEqual(len({node for node in told.values()}), len(come_to_by_words(image)))

    def test_broken(self):
        many = 0
        for image in many_images(any_image, 22, 400):
            if breaks(image):
                many += 1
                with self.assertRaises(Broken) as held:
                    tree_of(image)
                self.assertIs(held.exception.__class__, Broken)
            else:
                self.assertIsInstance(tree_of(image), Tree)
        self.assertGreater(many, 100)
        self.assertRaises(Broken, tree_of, image_of([file(1), None], [EMPTY]))
        self.assertRaises(Broken, tree_of, image=image_of([folder(0), None], [EMPTY]))


# /a is made with a page, written, moved to /b, and its page's text is put anew and anew.
FIRST = first_image(4, 2)
CHANGES = [
    (0, 0, ((0, True),), ()),
    (1, 2, ((0, "folder"), (1, None), (2, None), (3, None), (4, None)), ()),
    (2, 1, ((0, ("folder", 1, (0,))),), (0, 1)),
    (3, 1, ((1, ("file", 1, ())),), ()),
    (4, 2, ((1, ("a", 1)),), (2, 3)),
    (5, 0, ((1, True),), ()),
    (6, 3, ((0, "file"), (1, "x"), (2, None), (3, None), (4, None)), ()),
    (7, 1, ((1, ("file", 1, (1,))),), (5, 6)),
    (8, 3, ((1, "y"),), ()),
    (9, 3, ((1, "x"),), ()),
    (10, 1, ((1, ("file", 2, (1,))),), ()),
    (11, 2, ((2, ("b", 1)),), (2, 10)),
    (12, 2, ((1, None),), (11,)),
    (13, 1, ((1, ("file", 1, (1,))),), ()),
]


def chosen(changes, numbers):
    return [change for change in changes if change[0] in numbers]


def slots_that_change(image):
    """Places of an image, and for each some worths with which it stays one."""
    worths = {(0, 0): (True, False), (0, 1): (True, False)}
    for slot in range(4):
        worths[1, slot] = (("file", 0, ()), ("file", 1, (1,)), None, ("folder", 1, ()))
    for slot in range(1, 5):
        worths[2, slot] = (None, ("a", 1), ("b", 2))
        worths[3, slot] = (None, ("a", 1), ("c", 3))
    return worths


def row_of_changes(chance, image, most):
    """Changes over few places, so that slots and their worths come again."""
    worths = slots_that_change(image)
    places = chance.sample(sorted(worths), 5)
    changes = []
    for number in sorted(chance.sample(range(2 * most), chance.randint(0, most))):
        page = chance.choice(places)[0]
        own = [slot for one, slot in places if one == page]
        slots = sorted(chance.sample(own, chance.randint(1, min(2, len(own)))))
        leans = tuple(sorted(chance.sample(range(number), min(number, chance.choice((0, 0, 1, 1, 2))))))
        changes.append((number, page, tuple((slot, chance.choice(worths[page, slot])) for slot in slots), leans))
    return changes


def least_by_words(image, changes, later):
    """The least of all closed lists that put on the image are the later one, found by trying all."""
    fits = []
    for many in range(len(changes) + 1):
        for some in itertools.combinations(changes, many):
            numbers = [change[0] for change in some]
            if put_on(image, list(some)) == later and closed_by_words(changes, numbers):
                fits.append(numbers)
    if not fits:
        return None
    assert all(set(fits[0]) <= set(other) for other in fits)
    return fits[0]


class PutBy(unittest.TestCase):
    def told(self, image, changes, later, wanted):
        told = put_by(image, changes, later)
        self.assertEqual(told, wanted)
        self.assertEqual(put_by(later=later, changes=changes, image=image), wanted)
        if wanted is not None:
            self.assertIsInstance(told, list)
            self.assertIs(is_closed(changes, told), True)
            self.assertEqual(put_on(image, chosen(changes, told)), later)

    def test_no_changes(self):
        for image in (first_image(2, 1), first_image(9, 16)):
            self.told(image, [], image, [])
        self.told(FIRST, [], with_slots(FIRST, 0, (True, False)), None)
        self.told(FIRST, [], with_slots(FIRST, 1, (None,) * 4), None)

    def test_nothing_was_written(self):
        self.told(FIRST, CHANGES, FIRST, [])

    def test_each_closed_list_of_a_row_of_deeds(self):
        told = 0
        for many in range(len(CHANGES) + 1):
            for some in itertools.combinations(range(len(CHANGES)), many):
                if closed_of(CHANGES, some) == list(some):
                    later = put_on(FIRST, chosen(CHANGES, some))
                    least = put_by(FIRST, CHANGES, later)
                    self.assertLessEqual(set(least), set(some))
                    self.assertEqual(put_on(FIRST, chosen(CHANGES, least)), later)
                    told += 1
        self.assertGreater(told, 100)

    def test_all_of_them(self):
        self.told(FIRST, CHANGES[:8], put_on(FIRST, CHANGES[:8]), list(range(8)))
        # 4 and 12 put a name and take it back, 8 and 9 a text: they needn't be on the disk, but for 11, 10 must be.
        wanted = [0, 1, 2, 3, 5, 6, 7, 10, 11, 13]
        self.told(FIRST, CHANGES, put_on(FIRST, CHANGES), wanted)

    def test_behind_each_writing(self):
        chance = random.Random(3)
        for _ in range(40):
            written, disk = [], FIRST
            for _ in range(8):
                left = [change for change in CHANGES if change[0] not in written]
                along = goes_along(left, chance.randrange(4))
                disk = put_on(disk, chosen(CHANGES, along))
                written = sorted(written + along)
                least = put_by(FIRST, CHANGES, disk)
                self.assertLessEqual(set(least), set(written))
                self.told(FIRST, CHANGES, disk, least)

    def test_leaning_on_others(self):
        later = put_on(FIRST, chosen(CHANGES, [0, 1, 2]))
        self.told(FIRST, CHANGES, later, [0, 1, 2])
        # A node points to a page whose bit and slots aren't there: no closed list has that.
        self.told(FIRST, CHANGES, put_on(FIRST, chosen(CHANGES, [2])), None)
        self.told(FIRST, CHANGES, put_on(FIRST, chosen(CHANGES, [0, 2])), None)
        self.told(FIRST, CHANGES, put_on(FIRST, chosen(CHANGES, [0, 1, 2, 4])), None)
        self.told(FIRST, CHANGES, put_on(FIRST, chosen(CHANGES, [0, 1, 2, 3, 4])), [0, 1, 2, 3, 4])

    def test_leaning_on_a_change_that_is_hidden_by_a_later_one(self):
        changes = [
            (0, 0, ((0, True),), ()), (1, 0, ((0, False),), ()), (2, 1, ((1, ("file", 0, ())),), (0,)),
        ]
        image = first_image(2, 1)
        later = put_on(image, changes)
        self.told(image, changes, later, [0, 1, 2])
        self.told(image, changes, put_on(image, changes[::2]), [0, 2])
        self.told(image, changes[:2], image, [])
        self.told(image, changes[:2], put_on(image, changes[:1]), [0])

    def test_worths_that_come_again(self):
        image = first_image(2, 1)
        worths = [("file", 0, ()), None, ("file", 0, ()), None, ("file", 1, ()), ("file", 0, ())]
        changes = [(2 * at, 1, ((1, worth),), ()) for at, worth in enumerate(worths)]
        for worth, wanted in ((None, []), (("file", 0, ()), [0]), (("file", 1, ()), [0, 2, 4, 6, 8]),
                              (("folder", 1, ()), None)):
            self.told(image, changes, with_slots(image, 1, (("folder", 1, ()), worth)), wanted)

    def test_a_change_of_several_slots(self):
        image = first_image(2, 3)
        changes = [
            (1, 0, ((0, True), (1, True)), ()), (3, 0, ((1, False), (2, True)), ()),
            (4, 0, ((0, False), (2, False)), ()),
        ]
        for taken, wanted in (
            ((False, False, False), []), ((True, True, False), [1]), ((True, False, True), [1, 3]),
            ((False, True, False), None), ((True, False, False), None), ((True, True, True), None),
            ((False, False, True), None), ((False, True, True), None),
        ):
            self.told(image, changes, with_slots(image, 0, taken), wanted)

    def test_elder_ones_of_the_same_slot_are_there_too(self):
        image = first_image(2, 1)
        changes = [(0, 0, ((0, True),), ()), (1, 1, ((1, ("file", 0, ())),), (0,)), (2, 1, ((1, ("file", 5, ())),), ())]
        later = with_slots(image, 1, (("folder", 1, ()), ("file", 5, ())))
        self.told(image, changes, later, None)
        self.told(image, changes, with_slots(later, 0, (True,)), [0, 1, 2])

    def test_a_slot_that_no_change_put(self):
        later = put_on(FIRST, chosen(CHANGES, [3]))
        self.told(FIRST, CHANGES, later, [3])
        self.told(FIRST, CHANGES, with_slots(later, 1, (*slots_of(later, 1)[:3], ("file", 0, ()))), None)

    def test_a_worth_that_no_change_put(self):
        self.told(FIRST, CHANGES, with_slots(FIRST, 1, (("folder", 2, ()), None, None, None)), None)
        self.told(FIRST, CHANGES, with_slots(FIRST, 3, file_page("z")), None)

    def test_images_of_other_sizes(self):
        for nodes, pages in ((4, 1), (4, 3), (3, 2), (5, 2), (8, 1), (2, 1), (16, 16)):
            self.told(FIRST, CHANGES, first_image(nodes, pages), None)

    def test_numbers_of_sixty_figures(self):
        least = SIXTY_FIGURES - 20
        changes = [(least + number, page, puts, tuple(least + lean for lean in leans))
                   for number, page, puts, leans in CHANGES]
        self.told(FIRST, changes, put_on(FIRST, changes), [least + at for at in (0, 1, 2, 3, 5, 6, 7, 10, 11, 13)])
        self.told(FIRST, changes, put_on(FIRST, changes[2:3]), None)

    def test_leans_that_are_none_of_the_list_ask_for_nothing(self):
        changes = [(5, 0, ((0, True),), (1, 2, 4)), (8, 1, ((1, ("file", 0, ())),), (3, 7))]
        image = first_image(2, 1)
        self.told(image, changes, put_on(image, changes), [5, 8])
        self.told(image, changes, put_on(image, changes[1:]), [8])

    def test_a_long_row_of_one_slot(self):
        image = first_image(2, 1)
        changes = [(at, 1, ((1, ("file", at * 7 % 100, ())),), (at - 1,) if at else ()) for at in range(100)]
        for at in (0, 1, 50, 98, 99):
            later = put_on(image, changes[:at + 1])
            self.told(image, changes, later, list(range(at + 1)))

    def test_as_the_words_say(self):
        chance = random.Random(9)
        image = image_of([folder(1), None, None, None], [folder_page(), folder_page("a1")])
        seen = []
        for _ in range(800):
            changes = row_of_changes(chance, image, 7)
            some = [change[0] for change in changes if chance.random() < 0.5]
            if chance.random() < 0.4:
                some = closed_of(changes, some)
            later = put_on(image, chosen(changes, some))
            self.assertIs(is_image(later), True)
            wanted = least_by_words(image, changes, later)
            seen.append("none" if wanted is None else "less" if len(wanted) < len(some) else "all")
            self.told(image, changes, later, wanted)
        for word in ("none", "less", "all"):
            self.assertGreater(seen.count(word), 40, word)

    def test_nothing_handed_in_is_changed(self):
        for later in (FIRST, put_on(FIRST, CHANGES), put_on(FIRST, CHANGES[2:3])):
            changes = copy.deepcopy(CHANGES)
            image, after = copy.deepcopy((FIRST, later))
            put_by(image, changes, after)
            self.assertEqual((image, changes, after), (FIRST, CHANGES, later))

    def test_told_lists_are_new(self):
        later = put_on(FIRST, CHANGES[:8])
        for image in (later, FIRST):
            told = put_by(FIRST, CHANGES, image)
            before = list(told)
            told.append(99)
            told.reverse()
            self.assertEqual(put_by(FIRST, CHANGES, image), before)
            self.assertIsNot(put_by(FIRST, CHANGES, image), put_by(FIRST, CHANGES, image))


class WrittenOf(unittest.TestCase):
    def begun(self):
        system = System(FIRST)
        system.do(("make", ("a",)))
        system.do(("put", ("a",), 0, "x"))
        return system

    def test_those_that_are_written_rising(self):
        system = self.begun()
        wanted = []
        self.assertEqual(written_of(system), [])
        for page, along in ((3, [6]), (2, [1]), (0, [0, 5]), (1, [2, 3, 7]), (1, []), (2, [4])):
            self.assertEqual(system.write(page), along)
            wanted = sorted(wanted + along)
            told = written_of(system)
            self.assertIsInstance(told, list)
            self.assertEqual(told, wanted)
            self.assertEqual(written_of(system=system), wanted)
        self.assertEqual(wanted, list(range(8)))

    def test_of_systems_without_changes(self):
        system = System(FIRST)
        self.assertEqual(written_of(system), [])
        system.write(0)
        self.assertEqual(written_of(system), [])

    def test_told_lists_are_new(self):
        system = self.begun()
        system.clean()
        written_of(system).append(99)
        self.assertEqual(written_of(system), list(range(8)))
        self.assertIsNot(written_of(system), written_of(system))

    def test_the_system_stays(self):
        system = self.begun()
        system.write(0)
        twin = system.twin()
        written_of(system)
        self.assertEqual((system, system.changes(), system.writings()), (twin, twin.changes(), twin.writings()))

    def test_what_is_written_puts_the_disk(self):
        chance = random.Random(4)
        for _ in range(60):
            image = any_first(chance)
            system = System(image)
            for _ in range(chance.randint(0, 30)):
                refused(system, any_deed(chance, system))
                system.write(chance.randrange(disk_pages(image)))
            changes, told = system.changes(), written_of(system)
            left = [change[0] for change in system.unwritten()]
            self.assertEqual(told, [change[0] for change in changes if change[0] not in left])
            self.assertIs(is_closed(changes, told), True)
            self.assertEqual(put_on(image, chosen(changes, told)), system.disk())
            self.assertLessEqual(set(put_by(image, changes, system.disk())), set(told))


if __name__ == "__main__":
    unittest.main()
