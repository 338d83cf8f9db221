"""The rules of leaning, and what breaks without each: point [18], with [3] (f)."""

import copy
import random
import unittest

from tests.systems import any_deed, any_first, any_page, bit, file, filled, folder, named, node, refused, struck
from tests.things import deep_list, deep_tuple, things_of_any_kind
from writeorders.errors import NoRule
from writeorders.images import first_image
from writeorders.looker import breaks, come_to, names_of
from writeorders.rules import RULES, broken_without
from writeorders.stops import tree_of
from writeorders.system import System

WORDS = ("made", "held", "filled", "taken", "moved", "way", "ring", "once", "lowered", "freed")
FIRST = first_image(8, 8)


def played(steps, without=()):
    system = System(FIRST, without=without)
    system.play(steps)
    return system


class Rules(unittest.TestCase):
    def test_the_words_in_their_order(self):
        self.assertEqual(RULES, WORDS)
        self.assertIsInstance(RULES, tuple)

    def test_none(self):
        things = things_of_any_kind() + [
            "", "Made", "made ", " made", "mad", "rules", b"made", ("made",), ["made"], {"made"}, {"made": 1}, RULES,
            deep_tuple(), deep_list(),
        ]
        for thing in things:
            with self.assertRaises(NoRule) as held:
                broken_without(thing)
            self.assertIs(held.exception.__class__, NoRule)
            self.assertIs(held.exception.word, thing)
            self.assertRaises(NoRule, broken_without, word=thing)


class BrokenWithout(unittest.TestCase):
    def test_by_form(self):
        for word in RULES:
            told = broken_without(word)
            self.assertIsInstance(told, tuple)
            steps, path = told
            self.assertIsInstance(steps, list)
            self.assertEqual(broken_without(word=word), told)
            self.assertTrue(path is None or word in ("moved", "held", "way"))

    def test_what_comes_of_them_without_the_rule(self):
        for word in RULES:
            steps, path = broken_without(word)
            system = played(steps, (word,))
            if path is None:
                self.assertNotEqual(breaks(system.disk()), [], word)
            else:
                self.lost(word, steps, path, system)

    def lost(self, word, steps, path, system):
        last = max(at for at, step in enumerate(steps) if step == ("clean",))
        ahead, with_rules = played(steps[:last + 1], (word,)), played(steps[:last + 1])
        self.assertEqual(ahead.sort_at(path), "file")
        number = ahead.node_of(path)
        self.assertEqual(with_rules.node_of(path), number)
        self.assertEqual(breaks(system.disk()), [])
        self.assertNotIn(number, come_to(system.disk()))
        memory = system.memory()
        self.assertIn(number, [kid for one in come_to(memory) for _, kid in names_of(memory, one)])
        self.assertIn(number, come_to(played(steps).disk()))

    def test_with_all_rules_nothing_comes_of_them(self):
        for word in RULES:
            steps, path = broken_without(word)
            system = System(FIRST)
            for at in range(len(steps)):
                system.play(steps[at:at + 1])
                self.assertEqual(breaks(system.disk()), [], word)
            if path is not None:
                tree_of(system.disk())

    def test_told_lists_are_told_anew(self):
        for word in RULES:
            told = broken_without(word)
            before = copy.deepcopy(told)
            told[0].reverse()
            told[0].append("new")
            self.assertEqual(broken_without(word), before)


class Leanings(unittest.TestCase):
    """Without a rule just those leanings are missing that it tells."""

    def rows(self, word, deeds, *lacking):
        """Without the rule just these (number, lean) are missing of the changes that the deeds make."""
        one, other = System(FIRST), System(FIRST, without=(word,))
        for deed in deeds:
            for system in (one, other):
                system.clean() if deed == "clean" else system.do(deed)
        for change, less in zip(one.changes(), other.changes()):
            number, page, puts, leans = change
            kept = tuple(lean for lean in leans if (number, lean) not in lacking)
            self.assertEqual(less, (number, page, puts, kept), (word, change))
        self.assertEqual(len(one.changes()), len(other.changes()))
        self.assertEqual([row for row in lacking if row[1] not in one.changes()[row[0]][3]], [])

    def test_made_held_filled_taken(self):
        deeds = [("make", ("a",)), ("link", ("a",), ("b",))]
        self.rows("made", deeds, (4, 3), (6, 5))
        self.rows("held", deeds, (4, 2), (6, 2))
        self.rows("filled", deeds, (2, 1))
        self.rows("taken", deeds, (2, 0))
        self.rows("filled", [*deeds, ("put", ("a",), 0, "x")], (2, 1), (9, 8))
        self.rows("taken", [*deeds, ("put", ("a",), 0, "x")], (2, 0), (9, 7))

    def test_moved(self):
        self.rows("moved", [("make", ("a",)), ("link", ("a",), ("b",)), ("drop", ("a",))], (7, 6))
        self.rows("moved", [("make", ("a",)), ("move", ("a",), ("b",))], (7, 6))
        self.rows("moved", [("folder", ("d",)), ("make", ("d", "a")), ("drop", ("d", "a")), ("drop", ("d",))], (11, 10))

    def test_way(self):
        deeds = [("make", ("a",)), ("folder", ("d",)), ("move", ("a",), ("d", "a"))]
        self.rows("way", deeds, (12, 6))
        deeds = [("make", ("a",)), ("folder", ("d",)), ("link", ("a",), ("d", "a")), ("drop", ("a",))]
        self.rows("way", deeds, (12, 6))

    def test_ring(self):
        deeds = [("folder", ("a",)), ("folder", ("a", "b")), "clean", ("move", ("a", "b"), ("b",)),
                 ("move", ("a",), ("b", "a"))]
        self.rows("ring", deeds, (17, 12))

    def test_once(self):
        deeds = [("make", ("a",)), "clean", ("drop", ("a",)), ("make", ("a",))]
        self.rows("once", deeds, (7, 5))

    def test_a_leaning_that_another_rule_tells_too_stays(self):
        # The name struck was /t/x, which led to the folder that t stands in now: both once and ring tell of it.
        deeds = [("folder", ("t",)), ("folder", ("t", "x")), ("folder", ("m",)), "clean",
                 ("move", ("t", "x"), ("n",)), ("move", ("t",), ("n", "t")), ("move", ("m",), ("n", "t", "x"))]
        system = System(FIRST)
        for deed in deeds:
            system.clean() if deed == "clean" else system.do(deed)
        strike = [change for change in system.changes() if change[1:3] == (4, ((1, None),))][0][0]
        name = [change for change in system.changes() if change[2] == ((1, ("x", 3)),)][0]
        self.assertIn(strike, name[3])
        for word in ("once", "ring"):
            other = System(FIRST, without=(word,))
            for deed in deeds:
                other.clean() if deed == "clean" else other.do(deed)
            self.assertIn(strike, other.changes()[name[0]][3])
        other = System(FIRST, without=("ring", "once"))
        for deed in deeds:
            other.clean() if deed == "clean" else other.do(deed)
        self.assertNotIn(strike, other.changes()[name[0]][3])

    def test_by_chance_all_others_stay(self):
        chance = random.Random(91)
        for word in RULES[:8]:
            for _ in range(25):
                image = any_first(chance)
                one, other = System(image), System(image, without=(word,))
                # Without writings the numbers of the changes are alike.
                for _ in range(30):
                    deed = any_deed(chance, one)
                    self.assertEqual(refused(one, deed), refused(other, deed))
                for change, less in zip(one.changes(), other.changes()):
                    self.assertEqual(change[:3], less[:3])
                    self.assertLessEqual(set(less[3]), set(change[3]))
                self.assertEqual(one.memory(), other.memory())


class AtOnce(unittest.TestCase):
    def begun(self, word):
        system = System(FIRST, without=(word,))
        for deed in (("make", ("a",)), ("put", ("a",), 0, "x"), ("put", ("a",), 1, "y"), ("link", ("a",), ("b",))):
            system.do(deed)
        system.clean()
        self.new = len(system.changes())
        return system

    def does(self, system, deed, *changes):
        told = system.do(deed)
        self.assertEqual(told, [change[0] for change in changes])
        self.assertEqual([system.changes()[number] for number in told], list(changes))

    def test_lowered(self):
        system, n = self.begun("lowered"), self.new
        self.does(system, ("drop", ("a",)), struck(n, 0, 1), node(n + 1, 1, file(1, 1, 2)))
        self.does(system, ("drop", ("b",)), struck(n + 2, 0, 2), node(n + 3, 1, None))
        self.assertEqual(system.write(3), [n, n + 2])
        self.assertEqual(len(system.changes()), n + 4)
        self.assertEqual(system.write(1), [n + 1, n + 3])
        self.assertEqual(system.unwritten(), [bit(n + 4, 1, False), bit(n + 5, 2, False)])

    def test_lowered_by_a_move(self):
        system, n = self.begun("lowered"), self.new
        self.does(system, ("move", ("a",), ("c",)), node(n, 1, file(3, 1, 2)), named(n + 1, 0, 3, "c", 1, n),
                  struck(n + 2, 0, 1, n + 1), node(n + 3, 1, file(2, 1, 2)))

    def test_freed(self):
        system, n = self.begun("freed"), self.new
        self.does(system, ("cut", ("a",), 1), node(n, 1, file(2, 1)), bit(n + 1, 2, False))
        self.does(system, ("put", ("b",), 1, "z"), bit(n + 2, 2), filled(n + 3, 2, "z"),
                  node(n + 4, 1, file(2, 1, 2), n + 2, n + 3))
        self.does(system, ("drop", ("a",)), struck(n + 5, 0, 1))
        self.does(system, ("drop", ("b",)), struck(n + 6, 0, 2))
        self.assertEqual(system.write(3), [n + 5, n + 6])
        self.assertEqual(system.changes()[n + 7:], [
            node(n + 7, 1, file(1, 1, 2)), node(n + 8, 1, None), bit(n + 9, 1, False), bit(n + 10, 2, False),
        ])

    def test_both(self):
        system = System(FIRST, without=("freed", "lowered"))
        system.do(("make", ("a",)))
        system.do(("put", ("a",), 0, "x"))
        self.does(system, ("drop", ("a",)), struck(8, 0, 1), node(9, 1, None), bit(10, 1, False))
        self.does(system, ("folder", ("b",)), node(11, 1, folder(1)), named(12, 0, 1, "b", 1, 2, 11))

    def test_what_comes_of_the_writings_by_chance(self):
        chance = random.Random(92)
        for _ in range(40):
            system = System(any_first(chance), without=("lowered", "freed"))
            for _ in range(30):
                refused(system, any_deed(chance, system))
                many = len(system.changes())
                system.write(any_page(chance, system))
                self.assertEqual(len(system.changes()), many)
                self.assertEqual(breaks(system.memory()), [])


if __name__ == "__main__":
    unittest.main()
