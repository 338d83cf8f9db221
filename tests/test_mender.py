"""The mender: point [17], with [3] (e), [7], [10] and [12]."""

import itertools
import random
import unittest

from tests.small_images import (
    EMPTY, file, file_page, folder, folder_page, image_of, leaks_by_words, many_images, sound_image,
)
from tests.systems import any_deed, any_page, refused, state
from tests.things import SIXTY_FIGURES, Prickly, Unhashable, deep_list, deep_tuple, things_of_any_kind
from writeorders.errors import NoLeak, NoTime
from writeorders.images import first_image
from writeorders.looker import breaks, leaks
from writeorders.mender import Mender
from writeorders.stops import tree_of
from writeorders.system import System

# Node 1 is /a with a page and two links too many; 2 and 3 leak, point both to page 3, 2 to page 2 too, and to page 1,
# which is that of /a; 3 to page 5, which is free; page 4 leaks alone. Data pages stand from page 3 of the disk on.
IMAGE = image_of(
    [folder(1, 0), file(3, 1), file(1, 3, 2, 1), folder(2, 3, 5), None],
    [folder_page("a1"), file_page("text"), file_page("two"), file_page("both"), file_page(""), folder_page("a1")],
    free=(5,),
)
LEAKS = [("bit", 2), ("bit", 3), ("bit", 4), ("links", 1, 2), ("node", 2), ("node", 3)]


def begun(image=IMAGE):
    system = System(image)
    return system, Mender(system)


class MenderTest(unittest.TestCase):
    def refused(self, system, mender, leak):
        before = state(system), mender.leaks(), mender.mended(), len(mender)
        with self.assertRaises(NoLeak) as held:
            mender.mend(leak)
        self.assertIs(held.exception.__class__, NoLeak)
        self.assertEqual((state(system), mender.leaks(), mender.mended(), len(mender)), before)

    def mends(self, system, mender, leak, change, *more):
        """It is mended by this change, and more leaks with it."""
        left, mended, number = mender.leaks(), mender.mended(), len(system.changes())
        told = mender.mend(leak)
        self.assertEqual(told, [number])
        self.assertEqual(system.changes()[number:], [(number, *change, ())])
        self.assertIn(system.changes()[number], system.unwritten())
        self.assertEqual(mender.mended(), mended + [leak, *more])
        self.assertEqual(mender.leaks(), [one for one in left if one not in (leak, *more)])
        self.assertEqual(len(mender), len(mender.leaks()))


class Making(MenderTest):
    def test_the_leaks_of_the_image(self):
        for image in [IMAGE, first_image(2, 1)] + many_images(sound_image, 121, 100):
            _, mender = begun(image)
            self.assertEqual(mender.leaks(), leaks_by_words(image))
            self.assertEqual(mender.mended(), [])
            self.assertEqual(len(mender), len(mender.leaks()))
        self.assertEqual(leaks(IMAGE), LEAKS)
        self.assertEqual(Mender(system=System(IMAGE)).leaks(), LEAKS)

    def test_no_time(self):
        for act in (
            lambda one: one.do(("make", ("b",))), lambda one: one.do(("cut", ("a",), 1)), lambda one: one.write(0),
            lambda one: one.write(1), lambda one: one.add_change(0, ((5, True),), ()), lambda one: one.lower(1, 1),
            lambda one: one.play([("do", ("cut", ("a",), 1))]), lambda one: Mender(one).mend(("bit", 4)),
        ):
            system = System(IMAGE)
            act(system)
            for one in (system, system.twin()):
                before = state(one)
                with self.assertRaises(NoTime) as held:
                    Mender(one)
                self.assertIs(held.exception.__class__, NoTime)
                self.assertEqual(state(one), before)
            system.clean()
            self.assertRaises(NoTime, Mender, system=system)
            self.assertEqual(Mender(System(system.disk())).leaks(), leaks(system.disk()))

    def test_still_time(self):
        system = System(IMAGE)
        refused(system, ("make", ("a",)))
        system.play([])
        system.clean()
        Mender(system)
        Mender(system.twin())
        self.assertEqual(state(system), state(System(IMAGE)))

    def test_told_lists_are_new(self):
        system, mender = begun()
        mender.leaks().clear()
        mender.mended().append(("bit", 2))
        mender.mend(("bit", 4)).append(7)
        mender.mended().clear()
        self.assertEqual((len(mender), mender.mended()), (5, [("bit", 4)]))
        self.assertEqual(len(system.changes()), 1)


class Mending(MenderTest):
    def test_a_bit(self):
        system, mender = begun()
        self.mends(system, mender, ("bit", 4), (0, ((4, False),)))
        self.refused(system, mender, ("bit", 4))
        self.assertEqual(system.write(0), [0])
        self.assertEqual(system.unwritten(), [])
        self.refused(system, mender, ("bit", 4))

    def test_links(self):
        system, mender = begun()
        self.mends(system, mender, ("links", 1, 2), (1, ((1, ("file", 1, (1,))),)))
        self.refused(system, mender, ("links", 1, 2))
        self.refused(system, mender, ("links", 1, 1))

    def test_a_node_and_the_bits_of_its_pages(self):
        system, mender = begun()
        # Page 3 is left for node 3, which points to it too, and page 1 is none that leaks.
        self.mends(system, mender, ("node", 2), (1, ((2, None),)), ("bit", 2))
        self.assertEqual(system.memory()[0], (True, True, True, True, True, False))
        self.mends(system, mender, ("node", 3), (1, ((3, None),)), ("bit", 3))
        self.assertEqual(system.write(1), [0, 1])
        self.assertEqual(system.unwritten(), [(2, 0, ((2, False),), ()), (3, 0, ((3, False),), ())])
        self.assertEqual(mender.mended(), [("node", 2), ("bit", 2), ("node", 3), ("bit", 3)])

    def test_the_last_node_takes_the_bit_along(self):
        system, mender = begun()
        self.mends(system, mender, ("node", 3), (1, ((3, None),)))
        self.refused(system, mender, ("bit", 3))
        self.assertEqual(system.write(1), [0])
        self.assertEqual(system.unwritten(), [])
        self.refused(system, mender, ("bit", 3))
        self.mends(system, mender, ("node", 2), (1, ((2, None),)), ("bit", 2), ("bit", 3))
        self.assertEqual(system.write(1), [1])
        self.assertEqual(system.unwritten(), [(2, 0, ((2, False),), ()), (3, 0, ((3, False),), ())])

    def test_bits_rise_behind_their_node(self):
        image = image_of([folder(1), file(1, 4, 0, 2), None], [file_page("x")] * 5)
        system, mender = begun(image)
        self.mends(system, mender, ("node", 1), (1, ((1, None),)), ("bit", 0), ("bit", 2), ("bit", 4))
        self.assertEqual(mender.leaks(), [("bit", 1), ("bit", 3)])

    def test_a_node_that_points_to_a_page_twice(self):
        system, mender = begun(image_of([folder(1), file(1, 1, 1)], [EMPTY, file_page("x")]))
        self.refused(system, mender, ("bit", 1))
        self.mends(system, mender, ("node", 1), (1, ((1, None),)), ("bit", 1))
        system.write(1)
        self.assertEqual(system.unwritten(), [(1, 0, ((1, False),), ())])

    def test_a_bit_of_a_leaking_node_waits_for_it(self):
        system, mender = begun()
        self.refused(system, mender, ("bit", 2))
        self.refused(system, mender, ("bit", 3))
        self.mends(system, mender, ("node", 2), (1, ((2, None),)), ("bit", 2))
        self.refused(system, mender, ("bit", 2))
        self.refused(system, mender, ("bit", 3))

    def test_in_every_order(self):
        for order in itertools.permutations(LEAKS):
            system, mender = begun()
            left = list(LEAKS)
            for leak in order:
                held = leak == ("bit", 2) and ("node", 2) in left
                held = held or leak == ("bit", 3) and (("node", 2) in left or ("node", 3) in left)
                if held or leak not in left:
                    self.refused(system, mender, leak)
                else:
                    mender.mend(leak)
                    left = mender.leaks()
            self.assertEqual([one for one in left if one[0] == "node"], [])
            for leak in left:
                mender.mend(leak)
            self.assertEqual(len(mender), 0)
            self.assertEqual(sorted(mender.mended()), LEAKS)
            system.clean()
            self.assertEqual(leaks(system.disk()), [])
            self.assertEqual(system.tree(), tree_of(IMAGE))

    def test_of_anything_that_is_none(self):
        system, mender = begun()
        things = things_of_any_kind() + [
            (), ("bit",), ("bit", 0), ("bit", 5), ("bit", 4, 0), ["bit", 4], ("bit", "4"), ("bit", 4.0), ("bit", -1),
            ("node", 1), ("node", 0), ("node", 2, 1), ("node", True), ("links", 1), ("links", True, 2), ("links", 1, 1),
            ("links", 1, 3), ("links", 1, 2.0), ("links", 1, 2, 0), ("links", 2, 1), (b"bit", 4), ("Bit", 4),
            (["bit"], 4), ("bit", [4]), ("bit", {}), ("bit", Prickly()), (Prickly(), 4), ("bit", None), ("bit", (4,)),
            ("bit", SIXTY_FIGURES), ("links", 1, SIXTY_FIGURES), deep_tuple(), deep_list(), ("bit", deep_tuple(19)),
            ("bit", Unhashable(5)), ("taken", 4),
        ]
        for thing in things:
            self.refused(system, mender, thing)
        with self.assertRaises(NoLeak):
            mender.mend(leak=None)

    def test_true_and_false_are_no_numbers(self):
        image = image_of([folder(2, 2), file(2), None, None], [EMPTY, file_page("x"), folder_page("a1")])
        image = ((True,) * 3, *image[1:])
        system, mender = begun(image)
        self.assertEqual(mender.leaks(), [("bit", 0), ("bit", 1), ("links", 0, 1), ("links", 1, 1)])
        for leak in (("bit", False), ("bit", True), ("links", False, 1), ("links", 0, True), ("links", True, True)):
            self.refused(system, mender, leak)
        self.mends(system, mender, ("links", 0, 1), (1, ((0, ("folder", 1, (2,))),)))
        self.mends(system, mender, ("bit", Unhashable(1)), (0, ((1, False),)))


class Beside(MenderTest):
    """Deeds and writings between the mendings."""

    def test_links_of_a_file_that_was_dropped(self):
        system, mender = begun()
        system.do(("drop", ("a",)))
        self.mends(system, mender, ("links", 1, 2), (1, ((1, ("file", 1, (1,))),)))
        system.clean()
        self.assertIs(system.disk()[1][1], None)
        self.assertFalse(system.disk()[0][1])

    def test_where_no_link_is_left_the_node_is_let_go(self):
        system, mender = begun()
        system.do(("drop", ("a",)))
        system.clean()
        self.assertEqual(system.disk()[1][1], ("file", 2, (1,)))
        self.mends(system, mender, ("links", 1, 2), (1, ((1, None),)))
        self.assertEqual(system.write(1), [2])
        self.assertEqual(system.unwritten(), [(3, 0, ((1, False),), ())])

    def test_with_the_pages_that_the_node_has_then(self):
        system, mender = begun()
        system.do(("put", ("a",), 1, "more"))
        system.do(("cut", ("a",), 0))
        system.clean()
        system.do(("put", ("a",), 0, "new"))
        system.do(("drop", ("a",)))
        system.clean()
        pages = system.disk()[1][1][2]
        self.assertEqual(len(pages), 1)
        mender.mend(("links", 1, 2))
        system.clean()
        self.assertEqual((system.disk()[1][1], system.disk()[0][pages[0]]), (None, False))

    def test_what_running_deeds_take_is_not_freed(self):
        system, mender = begun()
        # Page 5 is free, though node 3 points to it; it becomes the new page of /a, then node 4 is taken.
        system.do(("put", ("a",), 1, "more"))
        system.do(("make", ("b",)))
        while len(mender):
            mender.mend(mender.leaks()[-1])
        system.clean()
        self.assertEqual(leaks(system.disk()), [])
        self.assertEqual(tree_of(system.disk()).read(("a",)), ["text", "more"])
        self.assertEqual(tree_of(system.disk()).paths(), [("a",), ("b",)])

    def test_what_deeds_leave_on_the_disk_is_no_leak_of_the_mender(self):
        system, mender = begun()
        system.do(("drop", ("a",)))
        system.write(3)
        self.assertIn(("node", 1), leaks(system.disk()))
        self.assertEqual(mender.leaks(), LEAKS)
        self.refused(system, mender, ("node", 1))
        self.refused(system, mender, ("bit", 1))

    def test_by_chance(self):
        chance = random.Random(122)
        seen = {"bit": 0, "node": 0, "links": 0}
        for image in many_images(sound_image, 123, 200):
            system, mender = begun(image)
            plain, alike = System(image), True
            for _ in range(40):
                dice = chance.random()
                if dice < 0.3:
                    page = any_page(chance, system)
                    system.write(page)
                    plain.write(page)
                    self.assertEqual(breaks(system.disk()), [])
                elif dice < 0.8 and alike:
                    deed = any_deed(chance, system)
                    # From a deed on for which the mending made room the trees go on by themselves.
                    alike = refused(system, deed) == refused(plain, deed)
                elif len(mender):
                    self.mended_by_chance(chance, system, mender, seen)
                if alike:
                    self.assertEqual(system.tree(), plain.tree())
                self.assertEqual(sorted(mender.leaks() + mender.mended()), leaks(image))
            while len(mender):
                mender.mend(mender.leaks()[-1])
            system.clean()
            self.assertEqual(leaks(system.disk()), [])
            self.assertEqual(tree_of(system.disk()), system.tree())
        self.assertGreater(min(seen.values()), 40)

    def mended_by_chance(self, chance, system, mender, seen):
        leak = chance.choice(mender.leaks())
        try:
            numbers = mender.mend(leak)
        except NoLeak:
            self.assertEqual(leak[0], "bit")
            return
        seen[leak[0]] += 1
        changes = system.changes()
        self.assertEqual([changes[number][3] for number in numbers], [()])
        self.assertEqual(numbers, [len(changes) - 1])
        self.assertEqual(breaks(system.memory()), [])


if __name__ == "__main__":
    unittest.main()
