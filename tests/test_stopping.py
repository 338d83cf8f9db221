"""All stops of a few writings: point [19], with [13] and [14]."""

import copy
import random
import unittest

from tests.systems import any_deed, refused, state
from tests.things import SIXTY_FIGURES, Prickly, deep_list, deep_tuple, no_whole_numbers
from writeorders.changes import closed_of, put_on
from writeorders.errors import NoNumber, TooMany
from writeorders.images import disk_pages, first_image, with_slots
from writeorders.looker import breaks
from writeorders.rules import RULES
from writeorders.stopping import all_images
from writeorders.system import System

SMALL = first_image(2, 1)
NAMELESS = ("folder", None, None, None, None)
NAMED = ("folder", ("a", 1), None, None, None)
FOLDER, FOLDER_WITH_PAGE, FILE = ("folder", 1, ()), ("folder", 1, (0,)), ("file", 1, ())


def small_image(bit, data, *nodes):
    return (bit,), nodes, (data,)


# /a is made: bit and filling go by themselves, then the nodes, or the file's node ahead of them; at last the name.
OF_A_FILE = [
    small_image(False, (None,) * 5, FOLDER, None),
    small_image(True, (None,) * 5, FOLDER, None),
    small_image(False, NAMELESS, FOLDER, None),
    small_image(True, NAMELESS, FOLDER, None),
    small_image(False, (None,) * 5, FOLDER, FILE),
    small_image(True, (None,) * 5, FOLDER, FILE),
    small_image(False, NAMELESS, FOLDER, FILE),
    small_image(True, NAMELESS, FOLDER, FILE),
    small_image(True, NAMELESS, FOLDER_WITH_PAGE, FILE),
    small_image(True, NAMED, FOLDER_WITH_PAGE, FILE),
]


def stands_by_words(system, deeds):
    """All stands that are met, each as a tuple of the number of deeds and a system, and all images."""
    met, ahead = [], [(0, system.twin())]
    while ahead:
        many, one = ahead.pop()
        if any(many == other and one == twin for other, twin in met):
            continue
        met.append((many, one))
        if many < len(deeds):
            twin = one.twin()
            refused(twin, deeds[many])
            ahead.append((many + 1, twin))
        for page in range(disk_pages(one.disk())):
            twin = one.twin()
            twin.write(page)
            ahead.append((many, twin))
    images = []
    for _, one in met:
        if one.disk() not in images:
            images.append(one.disk())
    return len(met), sorted(images, key=repr)


class StoppingTest(unittest.TestCase):
    def told(self, system, deeds, wanted):
        before, handed = state(system), copy.deepcopy(deeds)
        told = all_images(system, deeds)
        self.assertEqual(told, sorted(wanted, key=repr))
        self.assertIsInstance(told, list)
        self.assertEqual(all_images(deeds=deeds, system=system, most=2000), told)
        self.assertIn(system.disk(), told)
        self.assertEqual(state(system), before)
        self.assertEqual(deeds, handed)
        for image in told:
            self.assertEqual(breaks(image), [])

    def too_many(self, system, deeds, most):
        before = state(system)
        with self.assertRaises(TooMany) as held:
            all_images(system, deeds, most=most)
        self.assertIs(held.exception.__class__, TooMany)
        self.assertEqual(held.exception.many, most)
        self.assertEqual(state(system), before)


class AllImages(StoppingTest):
    def test_no_deeds(self):
        for image in (SMALL, first_image(16, 16)):
            self.told(System(image), [], [image])

    def test_a_file_is_made(self):
        self.assertEqual(len(OF_A_FILE), 10)
        self.told(System(SMALL), [("make", ("a",))], OF_A_FILE)

    def test_unwritten_changes_at_first(self):
        system = System(SMALL)
        system.do(("make", ("a",)))
        self.told(system, [], OF_A_FILE)
        system.write(0)
        self.told(system, [], [image for image in OF_A_FILE if image[0] == (True,)])
        system.clean()
        self.told(system, [], OF_A_FILE[-1:])

    def test_a_text_that_is_put(self):
        system = System(first_image(2, 2))
        system.do(("make", ("a",)))
        system.do(("put", ("a",), 0, "x"))
        system.clean()
        images = [system.disk()]
        for text in "yz":
            images.append(with_slots(images[0], 3, ("file", text, None, None, None)))
        self.told(system, [("put", ("a",), 0, "y"), ("put", ("a",), 0, "z")], images)
        self.told(system, [("put", ("a",), 0, "x"), ("put", ("a",), 0, "x")], images[:1])

    def test_what_comes_of_the_writings(self):
        system = System(SMALL)
        system.do(("make", ("a",)))
        system.clean()
        wanted = [OF_A_FILE[-1], small_image(True, NAMELESS, FOLDER_WITH_PAGE, FILE),
                  small_image(True, NAMELESS, FOLDER_WITH_PAGE, None)]
        self.told(system, [("drop", ("a",))], wanted)

    def test_between_and_behind_the_deeds(self):
        # In memory the file's name is gone again at once; on the disk it may be there.
        deeds = [("make", ("a",)), ("drop", ("a",))]
        wanted = OF_A_FILE + [small_image(True, NAMELESS, FOLDER_WITH_PAGE, None)]
        self.assertLessEqual(set(wanted), set(all_images(System(SMALL), deeds)))

    def test_refused_deeds_are_passed_over(self):
        deeds = [("drop", ("a",)), ("make", ("a", "b")), ("make", ("a",)), ("make", ("a",)), ("make", ("b",)),
                 ("move", ("a",), ("a", "b")), ("put", ("a",), 1, ""), ("put", ("a",), 0, ""), None, ("make",),
                 Prickly(), ("drop", ()), ("cut", ("a",), 0)]
        self.told(System(SMALL), deeds[:8], OF_A_FILE)
        self.assertEqual(all_images(System(SMALL), deeds), sorted(OF_A_FILE, key=repr))

    def test_refused_at_one_stand_and_done_at_another(self):
        # The second file is made where the first one's node was let go by then.
        system = System(SMALL)
        system.do(("make", ("a",)))
        system.clean()
        told = all_images(system, [("drop", ("a",)), ("make", ("b",))])
        named = [image for image in told if image[2][0][1] == ("b", 1)]
        self.assertEqual(len(named), 1)
        self.assertIn(OF_A_FILE[-1], told)

    def test_sorted_each_once(self):
        chance = random.Random(131)
        for _ in range(8):
            system, deeds = System(first_image(3, 3)), []
            for _ in range(4):
                deeds.append(any_deed(chance, system, "ab"))
                refused(system, deeds[-1])
            system = System(first_image(3, 3))
            many, wanted = stands_by_words(system, deeds)
            if len(wanted) <= 400 and many <= 4000:
                self.told(system, deeds, wanted)
                self.assertEqual(len(set(wanted)), len(wanted))

    def test_each_closed_list_and_no_other_where_nothing_waits(self):
        system = System(first_image(4, 2))
        system.do(("make", ("a",)))
        system.do(("put", ("a",), 0, "x"))
        changes = system.changes()
        images = set()
        for some in range(2 ** len(changes)):
            numbers = [number for number in range(len(changes)) if some >> number & 1]
            if closed_of(changes, numbers) == numbers:
                images.add(put_on(system.disk(), [changes[number] for number in numbers]))
        # A page takes along all that may go, so not each closed list is met.
        told = all_images(system, [])
        self.assertLessEqual(set(told), images)
        self.assertIn(system.memory(), told)

    def test_told_lists_are_new(self):
        told = all_images(System(SMALL), [("make", ("a",))])
        told.clear()
        self.assertEqual(len(all_images(System(SMALL), [("make", ("a",))])), 10)

    def test_without_a_rule_something_breaks(self):
        for word in RULES[:1] + RULES[2:4]:
            image = first_image(2, 1) if word != "made" else first_image(5, 1)
            deeds = [("make", (name,)) for name in ("abcd" if word == "made" else "a")]
            told = all_images(System(image, without=(word,)), deeds, most=2000)
            self.assertNotEqual([one for one in told if breaks(one)], [], word)
            for one in all_images(System(image), deeds, most=2000):
                self.assertEqual(breaks(one), [])


class Bounds(StoppingTest):
    def test_most_images_just_enough_and_one_less(self):
        deeds = [("make", ("a",))]
        self.assertEqual(len(all_images(System(SMALL), deeds, most=10)), 10)
        self.too_many(System(SMALL), deeds, 9)
        self.too_many(System(SMALL), deeds, 1)
        self.assertEqual(all_images(System(SMALL), [], most=1), [SMALL])

    def test_ten_times_as_many_stands(self):
        # Deeds that are refused make stands, but no images.
        deeds = [("drop", ("a",))] * 9
        self.assertEqual(stands_by_words(System(SMALL), deeds), (10, [SMALL]))
        self.assertEqual(all_images(System(SMALL), deeds, most=1), [SMALL])
        self.too_many(System(SMALL), deeds + deeds[:1], 1)
        self.assertEqual(all_images(System(SMALL), deeds * 2 + deeds[:1], most=2), [SMALL])
        self.too_many(System(SMALL), deeds * 2 + deeds[:2], 2)

    def test_stands_of_writings(self):
        deeds = [("make", ("a",))] + [("drop", ("b",))] * 4
        many, images = stands_by_words(System(SMALL), deeds)
        self.assertEqual((many, len(images)), (1 + 5 * 10, 10))
        self.assertEqual(len(all_images(System(SMALL), deeds, most=10)), 10)
        deeds += [("drop", ("b",))] * 5
        self.assertEqual(stands_by_words(System(SMALL), deeds)[0], 101)
        self.too_many(System(SMALL), deeds, 10)
        self.assertEqual(len(all_images(System(SMALL), deeds, most=11)), 10)

    def test_the_most_of_all(self):
        deeds = [("drop", ("a",))] * 3999
        self.assertEqual(all_images(System(SMALL), deeds), [SMALL])
        self.too_many(System(SMALL), deeds + deeds[:1], 400)
        with self.assertRaises(TooMany) as held:
            all_images(System(SMALL), deeds + deeds[:1])
        self.assertEqual(held.exception.many, 400)
        self.assertEqual(all_images(System(SMALL), deeds * 2, most=2000), [SMALL])

    def test_no_numbers(self):
        things = no_whole_numbers() + [0, -1, 2001, SIXTY_FIGURES, -SIXTY_FIGURES, deep_list(), deep_tuple()]
        for thing in things:
            for deeds in ([], [("make", ("a",))], [None]):
                system = System(SMALL)
                with self.assertRaises(NoNumber) as held:
                    all_images(system, deeds, most=thing)
                self.assertIs(held.exception.__class__, NoNumber)
                self.assertIs(held.exception.number, thing)

    def test_most_goes_by_its_name_alone(self):
        self.assertRaises(TypeError, all_images, System(SMALL), [], 400)


if __name__ == "__main__":
    unittest.main()
