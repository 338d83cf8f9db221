"""The promise over the whole: point [3], (a) to (d) and (f), by rows of deeds and writings."""

import random
import unittest

from tests.small_images import leaks_by_words, sound_image
from tests.systems import any_deed, any_first, any_page, refused, state
from tests.test_changes import elder_ones, leans_within
from writeorders.changes import is_closed, put_on
from writeorders.errors import Full, NoLeak
from writeorders.images import disk_pages, first_image
from writeorders.looker import breaks, come_to, leaks, names_of
from writeorders.mender import Mender
from writeorders.rules import RULES, broken_without
from writeorders.stops import put_by, tree_of, written_of
from writeorders.system import System
from writeorders.wishes import wish


def small(chance):
    """An image of a size at which all is full often."""
    return first_image(chance.randint(2, 6), chance.randint(1, 4))


class PromiseTest(unittest.TestCase):
    def hangs_together(self, system):
        """(b): nothing breaks on the disk, and all that is written is there."""
        disk = system.disk()
        self.assertEqual(breaks(disk), [])
        self.assertEqual(leaks(disk), leaks_by_words(disk))
        tree_of(disk)
        # What is free in memory is had, and led to, by nothing that is come to on the disk (12).
        taken, nodes, _ = system.memory()
        for node in come_to(disk):
            self.assertTrue(all(taken[page] for page in disk[1][node][2]))
            self.assertIsNotNone(nodes[node])

    def is_closed_behind_the_first(self, image, system):
        """(c): the image is the first one with some changes put on, and with each all that it needs."""
        changes, written = system.changes(), written_of(system)
        self.assertEqual(put_on(image, [changes[number] for number in written]), system.disk())
        for number in written:
            self.assertLessEqual(leans_within(changes[number], changes) | elder_ones(changes[number], changes),
                                 set(written))
        least = put_by(image, changes, system.disk())
        self.assertLessEqual(set(least), set(written))
        self.assertIs(is_closed(changes, least), True)

    def leanings_make_no_ring(self, system):
        """(d): the page of the least unwritten change takes that one along."""
        for number, _, _, leans in system.changes():
            self.assertEqual(list(leans), sorted(set(leans)))
            self.assertTrue(all(0 <= lean < number for lean in leans))
        if system.least() is not None:
            twin, least = system.twin(), system.unwritten()[0][0]
            self.assertIn(least, twin.write(system.least()))

    def row(self, chance, image, times):
        system, tree = System(image), tree_of(image)
        often = chance.choice((0.1, 0.4, 0.7))
        for _ in range(times):
            if chance.random() < often:
                system.write(any_page(chance, system))
                self.hangs_together(system)
            else:
                deed = any_deed(chance, system)
                met = refused(system, deed)
                if met is None or met[0] is not Full:
                    self.assertEqual(refused(tree, deed), met)
            self.assertEqual(system.tree(), tree)
            self.leanings_make_no_ring(system)
        self.is_closed_behind_the_first(image, system)
        return system

    def all_dropped(self, system):
        while system.paths():
            for path in reversed(system.paths()):
                # What stands too deep for a deed is moved up, where all has room again.
                if len(path) > 6:
                    system.clean()
                    system.do(("move", path[:4], ("zzzzzzzz",)))
                    break
                refused(system, ("drop", path))
        system.clean()


class Promise(PromiseTest):
    def test_rows_in_many_orders(self):
        chance = random.Random(111)
        for _ in range(120):
            self.row(chance, any_first(chance), 40)

    def test_at_small_sizes(self):
        chance = random.Random(112)
        for _ in range(150):
            self.row(chance, small(chance), 40)

    def test_systems_made_of_the_disk_behind_a_stop_go_on(self):
        chance = random.Random(113)
        for _ in range(60):
            image = any_first(chance)
            for _ in range(4):
                system = self.row(chance, image, 25)
                image = system.disk()
                self.assertEqual(System(image).tree(), tree_of(image))

    def test_clean_behind_any_row(self):
        chance = random.Random(114)
        for _ in range(80):
            system = self.row(chance, any_first(chance), 25)
            tree, first, many = system.tree(), len(system.unwritten()), len(system.changes())
            pages = system.clean()
            self.assertLessEqual(len(pages), first + len(system.changes()) - many)
            self.assertEqual(tree_of(system.disk()), tree)
            before = state(system)[:4]
            for page in list(range(disk_pages(system.disk()))) * 2:
                self.assertEqual(system.write(page), [])
            self.assertEqual(state(system)[:4], before)

    def test_all_dropped_and_clean_leaks_nothing(self):
        chance = random.Random(115)
        for _ in range(60):
            system = self.row(chance, small(chance), 40)
            self.all_dropped(system)
            taken, nodes, _ = system.disk()
            self.assertEqual([node for node in nodes[1:] if node is not None], [])
            self.assertEqual([page for page, bit in enumerate(taken) if bit], sorted(nodes[0][2]))
            self.assertEqual(leaks(system.disk()), [])

    def test_what_is_written_is_read_back(self):
        chance = random.Random(116)
        for _ in range(40):
            system = self.row(chance, any_first(chance), 30)
            system.clean()
            again = System(system.disk())
            for path in system.paths():
                self.assertEqual(again.sort_at(path), system.sort_at(path))
                if system.sort_at(path) == "file":
                    self.assertEqual(again.read(path), system.read(path))
                    self.assertEqual(again.many_names(path), system.many_names(path))

    def test_each_rule_is_needed(self):
        for word in RULES:
            steps, path = broken_without(word)
            one, other = System(first_image(8, 8), without=(word,)), System(first_image(8, 8))
            one.play(steps)
            other.play(steps)
            self.assertEqual(breaks(other.disk()), [])
            if path is None:
                self.assertNotEqual(breaks(one.disk()), [])
            else:
                self.assertNotEqual(come_to(one.disk()), come_to(other.disk()))


class AtTwoPlaces(unittest.TestCase):
    """A folder that was moved is seen at both places where the disk stopped between."""

    def stopped(self):
        system = System(first_image(8, 8))
        for deed in (("folder", ("p",)), ("folder", ("q",)), ("folder", ("p", "g")), ("make", ("p", "g", "x")),
                     ("put", ("p", "g", "x"), 0, "text"), ("make", ("q", "z"))):
            system.do(deed)
        system.clean()
        system.do(("move", ("p", "g"), ("q", "h")))
        system.write(1)
        self.assertEqual(len(system.write(7)), 1)
        return System(system.disk())

    def test_what_is_done_by_one_path_is_seen_by_the_other(self):
        system = self.stopped()
        self.assertEqual(leaks(system.disk()), [])
        self.assertEqual(system.paths(), [
            ("p",), ("p", "g"), ("p", "g", "x"), ("q",), ("q", "h"), ("q", "h", "x"), ("q", "z"),
        ])
        self.assertEqual(system.node_of(("p", "g")), system.node_of(("q", "h")))
        system.do(("put", ("p", "g", "x"), 0, "other"))
        self.assertEqual(system.read(("q", "h", "x")), ["other"])
        system.do(("make", ("q", "h", "y")))
        self.assertEqual(system.names(("p", "g")), ["x", "y"])
        system.do(("link", ("q", "h", "x"), ("p", "g", "w")))
        self.assertEqual([system.many_names(path) for path in (("p", "g", "x"), ("q", "h", "w"))], [2, 2])
        system.do(("drop", ("p", "g", "y")))
        self.assertEqual(system.names(("q", "h")), ["w", "x"])

    def test_each_name_is_counted_once(self):
        system = self.stopped()
        self.assertEqual([system.many_names(path) for path in (("p", "g", "x"), ("q", "h", "x"))], [1, 1])
        system.do(("link", ("q", "z"), ("p", "g", "z")))
        self.assertEqual([system.many_names(path) for path in (("q", "z"), ("q", "h", "z"))], [2, 2])

    def test_one_of_both_goes(self):
        for path in (("p", "g"), ("q", "h")):
            system = self.stopped()
            self.assertIsNotNone(refused(system, ("drop", path)))
            system.do(("move", path, ("g",)))
            system.clean()
            self.assertEqual(leaks(system.disk()), [])
            self.assertEqual(len([one for one in system.paths() if one[-1] == "x"]), 2)

    def test_rows_by_chance(self):
        chance = random.Random(117)
        many = 0
        while many < 60:
            image = sound_image(chance)
            if any(sum(kid == node for one in come_to(image) for _, kid in names_of(image, one)) > 1
                   for node in come_to(image) if image[1][node][0] == "folder"):
                many += 1
                system, tree = System(image), tree_of(image)
                for _ in range(40):
                    deed = any_deed(chance, system)
                    met = refused(system, deed)
                    if met is None or met[0] is not Full:
                        self.assertEqual(refused(tree, deed), met)
                    self.assertEqual(system.tree(), tree)
                    if chance.random() < 0.4:
                        system.write(any_page(chance, system))
                        self.assertEqual(breaks(system.disk()), [])


class WithMender(PromiseTest):
    """The same, with wishes and mendings between, from one stop to the next: (e) too."""

    def life(self, chance, image, times):
        """Deeds, writings, wishes and mendings on an image; the system and its mender."""
        system, tree = System(image), tree_of(image)
        mender = Mender(system)
        wished = {}
        for _ in range(times):
            self.step(chance, system, mender, tree, wished)
            self.assertEqual(system.tree(), tree)
            self.assertEqual(sorted(mender.leaks() + mender.mended()), leaks(image))
            self.wished_is_there(system, wished)
            self.hangs_together(system)
        self.leanings_make_no_ring(system)
        self.is_closed_behind_the_first(image, system)
        return system, mender

    def step(self, chance, system, mender, tree, wished):
        dice = chance.random()
        if dice < 0.3:
            system.write(any_page(chance, system))
        elif dice < 0.4:
            path = chance.choice([()] + system.paths())
            wish(system, path)
            self.assertEqual(tree_of(system.disk()).sort_at(path), system.sort_at(path))
            wished[system.node_of(path)] = True
        elif dice < 0.55 and len(mender):
            try:
                mender.mend(chance.choice(mender.leaks()))
            except NoLeak:
                self.assertIn("node", [leak[0] for leak in mender.leaks()])
        else:
            deed = any_deed(chance, system)
            met = refused(system, deed)
            if met is None or met[0] is not Full:
                self.assertEqual(refused(tree, deed), met)

    def wished_is_there(self, system, wished):
        """(c): by a name it is come to on the disk, as long as a name of it stands in memory."""
        memory, disk = come_to(system.memory()), come_to(system.disk())
        for node in list(wished):
            if node not in memory:
                del wished[node]
        self.assertLessEqual(set(wished), set(disk))

    def test_from_one_stop_to_the_next(self):
        chance = random.Random(118)
        for at in range(80):
            image = small(chance) if at % 2 else any_first(chance)
            for _ in range(4):
                system, mender = self.life(chance, image, 20)
                image = system.disk()
            while len(mender):
                mender.mend(mender.leaks()[-1])
            self.all_dropped(system)
            taken, nodes, _ = system.disk()
            self.assertEqual([node for node in nodes[1:] if node is not None], [])
            self.assertEqual([page for page, bit in enumerate(taken) if bit], sorted(nodes[0][2]))
            self.assertEqual((nodes[0][1], leaks(system.disk())), (1, []))

    def test_a_file_that_was_wished_and_a_name_of_it(self):
        # Without moved, held or way a wished file is lost by the told steps, and not with all rules.
        for word in ("moved", "held", "way"):
            steps, path = broken_without(word)
            last = max(at for at, step in enumerate(steps) if step == ("clean",))
            for without, there in (((word,), False), ((), True)):
                system = System(first_image(8, 8), without=without)
                system.play(steps[:last])
                wish(system, path)
                system.play(steps[last:])
                tree = tree_of(system.disk())
                self.assertEqual(any(one[-1] == path[-1] for one in tree.paths()), there)


if __name__ == "__main__":
    unittest.main()
