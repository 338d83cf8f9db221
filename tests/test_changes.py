"""Changes: point [6]."""

import copy
import itertools
import random
import unittest

from tests.things import SIXTY_FIGURES, Prickly
from writeorders.changes import closed_of, goes_along, is_closed, put_on
from writeorders.errors import NoPage
from writeorders.images import disk_pages, first_image, is_image, slots_of, with_slots


def change(number, page, slots, leans=()):
    return number, page, tuple((slot, (number, slot)) for slot in slots), tuple(leans)


def row_of_changes(chance, most):
    """A list of changes with gaps in their numbers, over few pages and slots."""
    changes = []
    for number in sorted(chance.sample(range(2 * most), chance.randint(0, most))):
        slots = sorted(chance.sample(range(4), chance.choice((1, 1, 1, 2, 3))))
        leans = sorted(chance.sample(range(number), min(number, chance.choice((0, 0, 1, 1, 2)))))
        changes.append(change(number, chance.randint(0, 2), slots, leans))
    return changes


def many_rows(seed, times, most):
    chance = random.Random(seed)
    return [row_of_changes(chance, most) for _ in range(times)]


def slots_put(one):
    return {slot for slot, _ in one[2]}


def leans_within(one, changes):
    return {lean for lean in one[3] if any(other[0] == lean for other in changes)}


def elder_ones(one, changes):
    """The numbers of lesser changes of the list that put a slot of its page that it puts."""
    return {
        other[0] for other in changes
        if other[0] < one[0] and other[1] == one[1] and slots_put(other) & slots_put(one)
    }


def along_by_words(changes, page):
    """What goes along, as point [6] says it word by word."""
    along = []
    for one in changes:
        if one[1] == page and leans_within(one, changes) | elder_ones(one, changes) <= set(along):
            along.append(one[0])
    return along


def closed_by_words(changes, numbers):
    return all(
        leans_within(one, changes) | elder_ones(one, changes) <= set(numbers)
        for one in changes if one[0] in numbers
    )


def least_closed_by_words(changes, numbers):
    """The least closed one of all lists that have the numbers, by trying all of them."""
    others = [one[0] for one in changes if one[0] not in numbers]
    fits = []
    for many in range(len(others) + 1):
        for more in itertools.combinations(others, many):
            if closed_by_words(changes, [*numbers, *more]):
                fits.append(sorted([*numbers, *more]))
        if fits:
            break
    assert len(fits) == 1
    return fits[0]


class GoesAlong(unittest.TestCase):
    def along(self, changes, page, wanted):
        told = goes_along(changes, page)
        self.assertIsInstance(told, list)
        self.assertEqual(told, wanted)
        self.assertEqual(goes_along(page=page, changes=changes), wanted)

    def test_none(self):
        self.along([], 0, [])
        self.along([change(0, 1, [0])], 0, [])
        self.along([change(0, 1, [0])], 2, [])
        self.along([change(0, 1, [0])], SIXTY_FIGURES, [])

    def test_only_those_of_the_page(self):
        changes = [change(0, 1, [0]), change(1, 2, [0]), change(2, 1, [1]), change(5, 2, [3])]
        self.along(changes, 1, [0, 2])
        self.along(changes, 2, [1, 5])
        self.along(changes, 0, [])

    def test_leaning_on_another_page_it_stays(self):
        changes = [change(0, 1, [0]), change(1, 2, [0], [0]), change(2, 2, [1])]
        self.along(changes, 2, [2])
        self.along(changes, 1, [0])

    def test_leaning_on_one_that_goes_along_it_goes(self):
        changes = [change(0, 2, [0]), change(1, 2, [1], [0]), change(2, 2, [2], [0, 1])]
        self.along(changes, 2, [0, 1, 2])

    def test_leaning_on_one_that_stays_it_stays(self):
        changes = [change(0, 1, [0]), change(1, 2, [1], [0]), change(2, 2, [2], [1]), change(3, 2, [3])]
        self.along(changes, 2, [3])

    def test_one_lean_of_several_is_enough_to_stay(self):
        for leans in ([0, 3], [1, 3], [0, 1, 3], [0, 1], [1]):
            changes = [change(0, 2, [0]), change(1, 1, [0]), change(3, 2, [3]), change(4, 2, [1], leans)]
            self.along(changes, 2, [0, 3] if 1 in leans else [0, 3, 4])

    def test_leans_that_are_none_of_the_list_hold_nothing(self):
        changes = [change(3, 1, [0], [0, 1, 2]), change(7, 2, [0], [5, 6]), change(9, 2, [1], [4, 7, 8])]
        self.along(changes, 1, [3])
        self.along(changes, 2, [7, 9])
        changes = [change(3, 1, [0]), change(7, 2, [0], [2, 3])]
        self.along(changes, 2, [])

    def test_an_elder_one_at_the_same_slot_holds_it(self):
        changes = [change(0, 1, [0]), change(1, 2, [0], [0]), change(2, 2, [0]), change(3, 2, [1])]
        self.along(changes, 2, [3])

    def test_an_elder_one_at_one_of_several_slots_holds_it(self):
        changes = [change(0, 1, [0]), change(1, 2, [0, 1], [0]), change(2, 2, [1, 2]), change(3, 2, [2, 3])]
        self.along(changes, 2, [])
        changes = [change(0, 1, [0]), change(1, 2, [0, 1], [0]), change(2, 2, [2, 3]), change(3, 2, [1, 3])]
        self.along(changes, 2, [2])

    def test_each_elder_one_counts_not_the_last_alone(self):
        changes = [change(0, 1, [0]), change(1, 2, [0], [0]), change(2, 2, [1]), change(3, 2, [0, 1])]
        self.along(changes, 2, [2])

    def test_an_elder_one_of_another_page_holds_nothing(self):
        changes = [change(0, 1, [0]), change(1, 3, [0], [0]), change(2, 2, [0]), change(3, 2, [0])]
        self.along(changes, 2, [2, 3])

    def test_a_later_one_holds_nothing(self):
        changes = [change(0, 1, [0]), change(1, 2, [0]), change(2, 2, [0], [0])]
        self.along(changes, 2, [1])

    def test_an_elder_one_that_goes_along_holds_nothing(self):
        changes = [change(4, 2, [0, 1, 2]), change(6, 2, [1]), change(9, 2, [0, 2], [6])]
        self.along(changes, 2, [4, 6, 9])

    def test_what_is_held_holds_on(self):
        changes = [
            change(0, 0, [0]), change(10, 1, [0], [0]), change(20, 1, [0, 1]), change(30, 1, [1, 2]),
            change(40, 1, [3]), change(50, 1, [4], [30]),
        ]
        self.along(changes, 1, [40])

    def test_numbers_of_sixty_figures(self):
        least = SIXTY_FIGURES - 9
        changes = [change(least, 1, [0]), change(least + 2, 2, [0], [5, least]), change(least + 3, 2, [1], [6])]
        self.along(changes, 2, [least + 3])
        self.along(changes, 1, [least])
        changes = [change(0, SIXTY_FIGURES, [SIXTY_FIGURES]), change(1, SIXTY_FIGURES, [SIXTY_FIGURES], [0])]
        self.along(changes, SIXTY_FIGURES, [0, 1])

    def test_as_the_words_say(self):
        for changes in many_rows(6, 600, 9):
            for page in range(4):
                self.along(changes, page, along_by_words(changes, page))

    def test_writing_again_and_again_takes_all(self):
        for changes in many_rows(66, 100, 9):
            left = changes
            writings = 0
            while left:
                along = goes_along(left, left[0][1])
                self.assertIn(left[0][0], along)
                left = [one for one in left if one[0] not in along]
                writings += 1
            self.assertLessEqual(writings, len(changes))


class PutOn(unittest.TestCase):
    def test_nothing(self):
        image = first_image(3, 2)
        self.assertEqual(put_on(image, []), image)

    def test_a_system_of_changes(self):
        image = first_image(6, 2)
        changes = [
            (0, 0, ((1, True),), ()),
            (1, 4, ((0, "file"), (1, "text"), (2, None), (3, None), (4, None)), ()),
            (4, 2, ((1, ("file", 1, (1,))),), (0, 1)),
        ]
        wanted = (
            (False, True),
            (("folder", 1, ()), None, None, None, None, ("file", 1, (1,))),
            ((None,) * 5, ("file", "text", None, None, None)),
        )
        told = put_on(image, changes)
        self.assertEqual(told, wanted)
        self.assertIs(is_image(told), True)
        self.assertEqual(put_on(changes=changes, image=image), wanted)
        self.assertEqual(image, first_image(6, 2))

    def test_the_later_one_of_a_slot_stays(self):
        image = first_image(2, 3)
        self.assertEqual(put_on(image, [(0, 0, ((1, True),), ()), (1, 0, ((1, False),), ())]), image)
        told = put_on(image, [(0, 0, ((0, True), (2, True)), ()), (5, 0, ((0, False), (1, True)), ())])
        self.assertEqual(slots_of(told, 0), (False, True, True))

    def test_one_behind_the_other_in_the_order_of_the_list(self):
        image = first_image(2, 1)
        first, then = (7, 0, ((0, "first"),), ()), (3, 0, ((0, "then"),), ())
        self.assertEqual(slots_of(put_on(image, [first, then]), 0), ("then",))
        self.assertEqual(slots_of(put_on(image, [then, first]), 0), ("first",))

    def test_leans_do_not_matter(self):
        image = first_image(2, 1)
        self.assertEqual(slots_of(put_on(image, [(9, 0, ((0, True),), (1, 2, 8))]), 0), (True,))

    def test_each_slot_of_each_page(self):
        for nodes, pages in ((2, 1), (4, 3), (5, 2), (9, 16), (16, 16)):
            image = first_image(nodes, pages)
            for page in range(disk_pages(image)):
                slots = slots_of(image, page)
                for slot in range(len(slots)):
                    told = put_on(image, [(SIXTY_FIGURES, page, ((slot, "new"),), ())])
                    wanted = slots[:slot] + ("new",) + slots[slot + 1:]
                    self.assertEqual(told, with_slots(image, page, wanted))

    def test_whatever_the_worths(self):
        worths = [Prickly(), [], {}, {1}, None, True, SIXTY_FIGURES, "x" * 9000, (1, [2]), int]
        image = first_image(2, 2)
        for worth in worths:
            for page in range(4):
                told = put_on(image, [(0, page, ((0, worth),), ())])
                self.assertIs(slots_of(told, page)[0], worth)
                again = put_on(told, [(1, page, ((0, "over"),), (0,)), (2, 1, ((1, worth),), ())])
                self.assertEqual(slots_of(again, page)[0], "over")
                self.assertIs(slots_of(again, 1)[1], worth)

    def test_told_is_made_of_tuples(self):
        told = put_on(first_image(6, 2), [change(0, 0, [0, 1]), change(1, 2, [1]), change(2, 3, [0, 4])])
        parts = [told, *told, *told[2]]
        self.assertTrue(all(isinstance(part, tuple) for part in parts))

    def test_some_and_then_the_others(self):
        for changes in many_rows(8, 200, 9):
            image = first_image(7, 4)
            image = with_slots(image, 2, ("a", "b", "c"))
            changes = [(n, p, tuple((s, w) for s, w in puts if p != 2 or s < 3) or ((0, n),), ls)
                       for n, p, puts, ls in changes]
            whole = put_on(image, changes)
            for at in range(len(changes) + 1):
                self.assertEqual(put_on(put_on(image, changes[:at]), changes[at:]), whole)

    def test_as_slot_by_slot(self):
        for changes in many_rows(9, 200, 9):
            image = first_image(8, 4)
            rows = [list(slots_of(image, page)) for page in range(disk_pages(image))]
            for _, page, puts, _ in changes:
                for slot, worth in puts:
                    rows[page][slot] = worth
            told = put_on(image, changes)
            self.assertEqual([list(slots_of(told, page)) for page in range(disk_pages(told))], rows)

    def test_what_goes_along_is_what_is_written(self):
        image = first_image(4, 1)
        changes = [
            (0, 0, ((0, True),), ()),
            (1, 1, ((1, ("file", 1, ())),), ()),
            (2, 1, ((0, ("folder", 1, (0,))),), (0,)),
            (3, 1, ((0, ("folder", 1, ())),), ()),
        ]
        along = goes_along(changes, 1)
        self.assertEqual(along, [1])
        told = put_on(image, [one for one in changes if one[0] in along])
        self.assertEqual(slots_of(told, 1), (("folder", 1, ()), ("file", 1, ()), None, None))

    def test_a_page_that_is_none(self):
        self.assertRaises(NoPage, put_on, first_image(2, 1), [change(0, 3, [0])])


class Closed(unittest.TestCase):
    CHANGES = [
        change(1, 0, [0]), change(3, 1, [0], [0, 1]), change(4, 1, [1], [2]), change(6, 1, [0, 1]),
        change(7, 2, [0], [6]), change(8, 2, [1], [5]), change(10, 0, [1, 2]), change(11, 0, [2, 3], [8]),
    ]

    def closed(self, numbers, wanted):
        told = is_closed(self.CHANGES, numbers)
        self.assertIs(told, wanted)
        self.assertIs(is_closed(numbers=numbers, changes=self.CHANGES), wanted)

    def least(self, numbers, wanted):
        told = closed_of(self.CHANGES, numbers)
        self.assertIsInstance(told, list)
        self.assertEqual(told, wanted)
        self.assertEqual(closed_of(numbers=numbers, changes=self.CHANGES), wanted)

    def test_closed(self):
        for numbers in ([], [1], [4], [8], [10], [1, 3], [1, 3, 4, 6], [8, 10, 11], [1, 3, 4, 6, 7],
                        [1, 3, 4, 6, 7, 8, 10, 11]):
            self.closed(numbers, True)

    def test_a_lean_lacks(self):
        for numbers in ([3], [3, 4], [7], [1, 3, 4, 7], [10, 11], [1, 7, 8]):
            self.closed(numbers, False)

    def test_an_elder_one_of_the_slots_lacks(self):
        for numbers in ([6], [1, 3, 6], [1, 4, 6], [4, 6], [8, 11], [1, 3, 4, 8, 11]):
            self.closed(numbers, False)

    def test_least_closed(self):
        self.least([], [])
        self.least([1], [1])
        self.least([3], [1, 3])
        self.least([4], [4])
        self.least([6], [1, 3, 4, 6])
        self.least([7], [1, 3, 4, 6, 7])
        self.least([8], [8])
        self.least([11], [8, 10, 11])
        self.least([4, 8], [4, 8])
        self.least([3, 8], [1, 3, 8])
        self.least([7, 11], [1, 3, 4, 6, 7, 8, 10, 11])

    def test_told_rising_whatever_the_order_of_the_told_ones(self):
        self.least([11, 3], [1, 3, 8, 10, 11])
        self.least([7, 6, 1], [1, 3, 4, 6, 7])
        self.closed([3, 1], True)
        self.closed([6, 4, 3, 1], True)
        self.closed([6, 4, 1], False)
        self.least([3, 3, 1, 3], [1, 3])
        self.closed([3, 1, 3], True)

    def test_of_no_changes(self):
        self.assertEqual(closed_of([], []), [])
        self.assertIs(is_closed([], []), True)

    def test_the_same_slot_of_another_page_is_another(self):
        changes = [change(0, 1, [0, 1]), change(1, 2, [0, 1]), change(2, 3, [0]), change(3, 2, [1, 2])]
        self.assertIs(is_closed(changes, [1, 2]), True)
        self.assertEqual(closed_of(changes, [2]), [2])
        self.assertEqual(closed_of(changes, [3]), [1, 3])

    def test_a_later_one_is_not_asked_for(self):
        changes = [change(0, 1, [0]), change(1, 1, [0]), change(2, 1, [0], [0])]
        self.assertEqual([closed_of(changes, [number]) for number in range(3)], [[0], [0, 1], [0, 1, 2]])
        self.assertEqual([is_closed(changes, [number]) for number in range(3)], [True, False, False])

    def test_numbers_of_sixty_figures(self):
        least = SIXTY_FIGURES - 5
        changes = [change(least, 1, [0]), change(least + 1, 2, [SIXTY_FIGURES], [7, least]),
                   change(least + 4, 2, [SIXTY_FIGURES])]
        self.assertEqual(closed_of(changes, [least + 4]), [least, least + 1, least + 4])
        self.assertIs(is_closed(changes, [least, least + 1]), True)
        self.assertIs(is_closed(changes, [least + 1]), False)

    def test_as_the_words_say(self):
        chance = random.Random(7)
        seen = []
        for changes in many_rows(5, 400, 8):
            for _ in range(6):
                numbers = sorted(one[0] for one in changes if chance.randint(0, 2) == 0)
                wanted = closed_by_words(changes, numbers)
                seen.append(wanted)
                self.assertIs(is_closed(changes, numbers), wanted)
                least = least_closed_by_words(changes, numbers)
                self.assertEqual(closed_of(changes, numbers), least)
                self.assertIs(is_closed(changes, least), True)
                self.assertEqual(closed_of(changes, least), least)
        self.assertTrue(min(seen.count(True), seen.count(False)) > 300)

    def test_what_goes_along_and_what_was_written_is_closed(self):
        chance = random.Random(70)
        for changes in many_rows(55, 200, 9):
            written = []
            for _ in range(6):
                left = [one for one in changes if one[0] not in written]
                written = sorted(written + goes_along(left, chance.randint(0, 2)))
                self.assertIs(is_closed(changes, written), True)


class NothingIsChanged(unittest.TestCase):
    def test_what_is_handed_in_stays_as_it_is(self):
        for changes in many_rows(11, 100, 9):
            image = first_image(8, 4)
            numbers = [one[0] for one in changes[::2]][::-1]
            before = copy.deepcopy((changes, numbers, image))
            for page in range(4):
                goes_along(changes, page)
            is_closed(changes, numbers)
            closed_of(changes, numbers)
            put_on(image, changes)
            self.assertEqual((changes, numbers, image), before)

    def test_a_worth_that_can_be_changed_stays_as_it_is(self):
        worth = [1, [2]]
        changes = [(0, 0, ((0, worth),), ()), (1, 0, ((0, True),), ())]
        put_on(first_image(2, 1), changes)
        self.assertEqual(worth, [1, [2]])

    def test_a_told_list_that_is_changed_is_told_anew(self):
        changes = [change(0, 1, [0]), change(2, 1, [1])]
        numbers = [0, 2]
        asks = (lambda: goes_along(changes, 1), lambda: closed_of(changes, numbers))
        for ask in asks:
            told = ask()
            self.assertEqual(told, [0, 2])
            told.append(9)
            told[0] = 7
            self.assertEqual(ask(), [0, 2])
            self.assertIsNot(ask(), ask())
        self.assertEqual(numbers, [0, 2])
        self.assertEqual(changes, [change(0, 1, [0]), change(2, 1, [1])])

    def test_a_list_of_no_numbers_is_told_anew(self):
        for ask in (lambda: goes_along([], 1), lambda: closed_of([], [])):
            ask().append(1)
            self.assertEqual(ask(), [])

    def test_worths_are_not_looked_at(self):
        prickly = Prickly()
        changes = [(0, 1, ((0, prickly),), ()), (1, 1, ((0, prickly), (1, prickly)), (0,))]
        self.assertEqual(goes_along(changes, 1), [0, 1])
        self.assertEqual(closed_of(changes, [1]), [0, 1])
        self.assertIs(is_closed(changes, [1]), False)
        self.assertIs(slots_of(put_on(first_image(4, 1), changes), 1)[1], prickly)


if __name__ == "__main__":
    unittest.main()
