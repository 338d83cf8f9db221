"""A system, its writings and its playing: points [10], [13] and [14], with [2] and [9]."""

import copy
import random
import unittest

from tests.small_images import (
    EMPTY, any_image, file, file_page, folder, folder_page, image_of, many_images, sound_image,
)
from tests.systems import any_deed, any_first, any_page, refused, state
from tests.test_changes import along_by_words
from tests.things import SIXTY_FIGURES, Prickly, Unhashable, deep_list, deep_tuple, no_whole_numbers, things_of_any_kind
from writeorders.changes import is_closed, put_on
from writeorders.errors import (
    Broken, Full, NoChange, NoDeed, NoImage, NoPage, NoPart, NoPath, NoRule, NoStep, NotEmpty, There, Within, Wrong,
)
from writeorders.images import disk_pages, first_image, is_image, slots_of
from writeorders.looker import breaks
from writeorders.rules import RULES
from writeorders.stops import tree_of, written_of
from writeorders.system import System
from writeorders.trees import Tree

DEEDS = [
    ("folder", ("d",)), ("make", ("d", "x")), ("put", ("d", "x"), 0, "one"), ("put", ("d", "x"), 1, "two"),
    ("link", ("d", "x"), ("l",)), ("make", ("y",)), ("folder", ("d", "e")),
]


def system_of(deeds, image=None, without=()):
    system = System(first_image(8, 8) if image is None else image, without=without)
    for deed in deeds:
        system.do(deed)
    return system


def full_folder(names, links=1):
    """An image whose first folder has all its pages full, and room else."""
    pages = [folder_page(*[letter + "1" for letter in names[at:at + 4]]) for at in range(0, len(names), 4)]
    nodes = [folder(links, *range(len(pages))), file(len(names)), None, None]
    return image_of(nodes, pages + [EMPTY] * 3)


class SystemTest(unittest.TestCase):
    def told(self, ask, error, *fields):
        """It is refused with just this error, and its field is the very thing."""
        with self.assertRaises(error) as held:
            ask()
        self.assertIs(held.exception.__class__, error)
        told = list(vars(held.exception).values())
        self.assertEqual(len(told), len(fields))
        for one, other in zip(told, fields):
            self.assertTrue(one is other or (isinstance(one, (str, tuple)) and one == other), (one, other))

    def stays(self, system, ask, error, *fields):
        before = state(system)
        self.told(ask, error, *fields)
        self.assertEqual(state(system), before)


class Making(SystemTest):
    def test_of_a_first_image(self):
        for nodes, pages in ((2, 1), (3, 16), (16, 16)):
            image = first_image(nodes, pages)
            for system in (System(image), System(image=image), System(image, without=())):
                self.assertEqual(system.memory(), image)
                self.assertEqual(system.disk(), image)
                self.assertEqual([system.changes(), system.unwritten(), system.log(), system.paths()], [[]] * 4)
                self.assertEqual([system.writings(), system.least(), system.begun()], [0, None, True])

    def test_of_any_image_that_hangs_together(self):
        for image in many_images(sound_image, 31, 100):
            system = System(image)
            self.assertEqual((system.memory(), system.disk()), (image, image))
            self.assertEqual(system.tree(), tree_of(image))
            self.assertIs(system.begun(), True)

    def test_of_what_is_none(self):
        taken, nodes, data = first_image(3, 2)
        things = things_of_any_kind() + [
            (), (taken, nodes), [taken, nodes, data], (list(taken), nodes, data), (taken, nodes[:1], data),
            ((0, 0), nodes, data), (taken, nodes, data[:1]), (taken, (("folder", True, ()), None, None), data),
            (taken, nodes, (("file", "x" * 41, None, None, None), EMPTY)), Tree(), System(first_image(2, 1)),
        ]
        for thing in things:
            self.told(lambda: System(thing), NoImage)
            self.told(lambda: System(image=thing, without=("none",)), NoImage)

    def test_of_what_breaks(self):
        many = 0
        for image in many_images(any_image, 32, 300):
            if breaks(image):
                many += 1
                self.told(lambda: System(image), Broken)
                self.told(lambda: System(image, without=("none",)), Broken)
            else:
                System(image)
        self.assertGreater(many, 100)

    def test_rules_that_are_none(self):
        image = first_image(2, 1)
        things = things_of_any_kind() + ["", "Made", "made ", "ways", b"made", ("made",), ["made"], {"made": 1}]
        for thing in things:
            self.told(lambda: System(image, without=(thing,)), NoRule, thing)
            self.told(lambda: System(image, without=("made", thing, "none", "made")), NoRule, thing)

    def test_rules_that_stood_ahead(self):
        image = first_image(2, 1)
        for word in RULES:
            self.told(lambda: System(image, without=(word, word)), NoRule, word)
        self.told(lambda: System(image, without=("way", "ring", "ring", "way", "none")), NoRule, "ring")
        self.told(lambda: System(image, without=("way", "none", "way")), NoRule, "none")
        self.told(lambda: System(image, without=("way", "ring", "way", "none")), NoRule, "way")
        System(image, without=RULES)
        System(image, without=tuple(reversed(RULES)))

    def test_what_stands_behind_a_star_goes_by_its_name_alone(self):
        self.assertRaises(TypeError, System, first_image(2, 1), ())


class Doing(SystemTest):
    def test_all_that_a_tree_tells(self):
        system = system_of(DEEDS)
        tree = Tree()
        for deed in DEEDS:
            tree.do(deed)
        self.assertEqual(system.tree(), tree)
        self.assertEqual(system.paths(), [("d",), ("d", "e"), ("d", "x"), ("l",), ("y",)])
        self.assertEqual((system.names(()), system.names(path=("d",))), (["d", "l", "y"], ["e", "x"]))
        self.assertEqual((system.sort_at(("d",)), system.sort_at(path=("l",))), ("folder", "file"))
        self.assertEqual((system.read(("l",)), system.read(path=("y",))), (["one", "two"], []))
        self.assertEqual((system.many_names(("l",)), system.many_names(path=("y",))), (2, 1))

    def test_refused_askings(self):
        system = system_of(DEEDS)
        asks = (system.sort_at, system.names, system.read, system.many_names, system.node_of, system.name_places)
        for thing in things_of_any_kind() + [("a",), ("d", "y"), ["d"], ("D",), ("d", 1), ("z", Prickly())]:
            for ask in asks:
                self.stays(system, lambda: ask(thing), NoPath, thing)
        for path in (("l", "a"), ("d", "x", "e", "f")):
            for ask in asks:
                self.stays(system, lambda: ask(path), Wrong, path)
        for path in ((), ("d",)):
            self.stays(system, lambda: system.read(path), Wrong, path)
            self.stays(system, lambda: system.many_names(path), Wrong, path)
        self.stays(system, lambda: system.names(("l",)), Wrong, ("l",))

    def test_told_is_the_askers_own(self):
        system = system_of(DEEDS)
        before = state(system)
        tree = system.tree()
        for told in (system.paths(), system.names(()), system.read(("l",)), system.changes(), system.unwritten(),
                     system.log(), system.do(("put", ("y",), 0, "z")), system.write(0), system.clean()):
            told.append("new")
            told.reverse()
        tree.do(("drop", ("l",)))
        self.assertEqual(system.paths(), before[7])
        self.assertEqual(system.changes()[:len(before[2])], before[2])
        self.assertEqual(system.tree().many_names(("l",)), 2)
        self.assertEqual(system.log(), [])

    def test_no_deeds(self):
        system = system_of(DEEDS)
        things = things_of_any_kind() + [
            (), ("make",), ("make", ()), ("drop", ()), ("make", "a"), ["make", ("a",)], ("put", ("y",), 3, "x"),
            ("put", ("y",), 0, "x" * 41), ("put", ("y",), False, "x"), ("cut", ("y",), 4), ("make", ("a",) * 7),
            ("write", 0), ("clean",), ("make", deep_tuple()), (Prickly(), ("a",)), ("link", ("l",), ()),
        ]
        for thing in things:
            self.stays(system, lambda: system.do(thing), NoDeed)
            self.stays(system, lambda: system.do(deed=thing), NoDeed)

    def test_refused_as_a_tree_refuses(self):
        system = system_of(DEEDS)
        for deed, error, worth in (
            (("make", ("l",)), There, ("l",)), (("folder", ("d", "x")), There, ("d", "x")),
            (("make", ("l", "a")), Wrong, ("l", "a")), (("make", ("a", "b")), NoPath, ("a", "b")),
            (("link", ("d",), ("z",)), Wrong, ("d",)), (("link", ("l",), ("y",)), There, ("y",)),
            (("link", ("l",), ("a", "b")), NoPath, ("a", "b")), (("drop", ("d",)), NotEmpty, ("d",)),
            (("drop", ("z",)), NoPath, ("z",)), (("move", ("d",), ("d", "e", "d")), Within, ("d", "e", "d")),
            (("move", ("l",), ("l",)), There, ("l",)), (("put", ("d",), 0, "x"), Wrong, ("d",)),
            (("put", ("y",), 1, "x"), NoPart, 1), (("cut", ("l",), 3), NoPart, 3),
        ):
            self.stays(system, lambda: system.do(deed), error, worth)

    def test_rows_of_deeds_against_a_plain_tree(self):
        chance = random.Random(81)
        for _ in range(150):
            image = any_first(chance)
            system, tree = System(image), tree_of(image)
            for _ in range(40):
                deed = any_deed(chance, system)
                before = state(system)
                met = refused(system, deed)
                if met is not None:
                    self.assertEqual(state(system), before)
                if met is None or met[0] is not Full:
                    self.assertEqual(refused(tree, deed), met)
                else:
                    # Full is due only of what the tree does.
                    self.assertIsNone(refused(tree.copy(), deed))
                    self.assertIn(met[1], [["nodes"], ["pages"], ["links"]])
                if chance.random() < 0.3:
                    system.write(any_page(chance, system))
                self.assertEqual(system.tree(), tree)
                self.assertEqual(system.paths(), tree.paths())
                self.assertTrue(is_image(system.memory()))

    def test_numbers_of_its_changes(self):
        system = system_of([])
        told = []
        for deed in DEEDS:
            numbers = system.do(deed=deed)
            told += numbers
            self.assertEqual(told, [change[0] for change in system.changes()])
            self.assertEqual(told, list(range(len(told))))
        self.assertEqual(system.do(("cut", ("y",), 0)), [])


class Room(SystemTest):
    def full(self, system, deed, word):
        self.stays(system, lambda: system.do(deed), Full, word)

    def test_no_node_is_free(self):
        system = system_of([("make", ("a",)), ("folder", ("b",))], first_image(3, 4))
        self.full(system, ("make", ("c",)), "nodes")
        self.full(system, ("folder", ("b", "c")), "nodes")
        system.do(("link", ("a",), ("c",)))
        # A node that is let go is free in memory as soon as the striking is written.
        system.do(("drop", ("b",)))
        self.full(system, ("make", ("d",)), "nodes")
        system.clean()
        system.do(("make", ("d",)))

    def test_no_data_page_is_free(self):
        system = system_of([("make", ("a",))], first_image(8, 2))
        system.do(("put", ("a",), 0, "x"))
        self.full(system, ("put", ("a",), 1, "x"), "pages")
        system.do(("put", ("a",), 0, "y"))
        system.do(("folder", ("b",)))
        self.full(system, ("make", ("b", "c")), "pages")
        self.full(system, ("folder", ("b", "c")), "pages")
        self.full(system, ("link", ("a",), ("b", "c")), "pages")
        self.full(system, ("move", ("a",), ("b", "c")), "pages")
        system.do(("cut", ("a",), 0))
        self.full(system, ("make", ("b", "c")), "pages")
        system.clean()
        system.do(("make", ("b", "c")))

    def test_a_node_has_three_pages(self):
        system = system_of([], full_folder("abcdefghijkl"))
        self.assertEqual(system.memory()[0].count(False), 3)
        self.full(system, ("make", ("m",)), "pages")
        self.full(system, ("link", ("a",), ("m",)), "pages")
        self.full(system, ("move", ("a",), ("m",)), "pages")
        system.do(("put", ("a",), 0, "x"))
        system.do(("drop", ("g",)))
        self.assertEqual(system.do(("make", ("m",))), [4, 5])
        self.assertEqual(slots_of(system.memory(), 3)[3], ("m", 2))

    def test_links_at_ninety_nine(self):
        image = image_of([folder(1, 0), file(98), folder(99), None], [folder_page("a1", "d2"), EMPTY])
        system = system_of([("link", ("a",), ("b",))], image)
        self.full(system, ("link", ("a",), ("c",)), "links")
        self.full(system, ("link", ("b",), ("c",)), "links")
        self.full(system, ("move", ("b",), ("c",)), "links")
        self.full(system, ("move", ("d",), ("c",)), "links")
        system.do(("drop", ("b",)))
        self.full(system, ("link", ("a",), ("c",)), "links")
        system.clean()
        system.do(("link", ("a",), ("c",)))

    def test_the_first_that_is_due(self):
        nodes = [folder(1, 0), file(99), file(3)]
        image = image_of(nodes, [folder_page("a1", "b2", "c2", "d2")])
        self.full(system_of([], image), ("make", ("e",)), "nodes")
        self.full(system_of([], image), ("link", ("a",), ("e",)), "pages")
        image = image_of(nodes + [None], [folder_page("a1", "b2", "c2", "d2")])
        self.full(system_of([], image), ("make", ("e",)), "pages")
        image = image_of(nodes + [None], [folder_page("a1", "b2", "c2", "d2"), EMPTY])
        self.full(system_of([], image), ("link", ("a",), ("e",)), "links")
        self.assertEqual(len(system_of([], image).do(("link", ("b",), ("e",)))), 5)

    def test_the_trees_refusals_go_first(self):
        system = system_of([], image_of([folder(1, 0), file(99), file(3)], [folder_page("a1", "b2", "c2", "d2")]))
        for deed, error, worth in ((("make", ("a",)), There, ("a",)), (("make", ("e", "f")), NoPath, ("e", "f")),
                                   (("link", ("a",), ("b",)), There, ("b",)), (("put", ("a",), 1, "x"), NoPart, 1)):
            self.stays(system, lambda: system.do(deed), error, worth)
        self.full(system, ("put", ("a",), 0, "x"), "pages")

    def test_leaks_are_not_free(self):
        taken, nodes, data = image_of([folder(1, 0), file(1, 1), None], [folder_page(), file_page("x"), EMPTY])
        system = system_of([("make", ("a",))], ((True, True, True), nodes, data))
        self.full(system, ("make", ("b",)), "nodes")
        self.full(system, ("put", ("a",), 0, "x"), "pages")


class Writing(SystemTest):
    def test_pages_that_are_none(self):
        for image in (first_image(2, 1), first_image(8, 8)):
            system = system_of([("make", ("a",))], image)
            things = no_whole_numbers() + [
                -1, disk_pages(image), disk_pages(image) + 1, SIXTY_FIGURES, -SIXTY_FIGURES, deep_tuple(), deep_list(),
            ]
            for thing in things:
                self.stays(system, lambda: system.write(thing), NoPage, thing)
                self.stays(system, lambda: system.write(page=thing), NoPage, thing)

    def test_each_page(self):
        system = system_of(DEEDS)
        for _ in range(3):
            for page in range(disk_pages(system.disk())):
                before, left, many = system.disk(), system.unwritten(), system.writings()
                along = along_by_words(left, page)
                self.assertEqual(system.write(page=page), along)
                self.assertEqual(system.disk(), put_on(before, [row for row in left if row[0] in along]))
                for other in range(disk_pages(before)):
                    if other != page:
                        self.assertEqual(slots_of(system.disk(), other), slots_of(before, other))
                self.assertEqual(system.writings(), many + 1)
                self.assertEqual([row for row in system.unwritten() if row in left],
                                 [row for row in left if row[0] not in along])

    def test_a_number_that_is_no_key(self):
        system = system_of([("make", ("a",))])
        self.assertEqual(system.write(Unhashable(3)), [1])
        self.assertEqual([system.is_written(Unhashable(at)) for at in range(3)], [False, True, False])

    def test_writings_are_counted(self):
        system = system_of([])
        for many in range(1, 4):
            self.assertEqual(system.write(0), [])
            self.assertEqual(system.writings(), many)
        system.do(("make", ("a",)))
        self.assertEqual(system.writings(), 3)
        pages = system.clean()
        self.assertEqual(system.writings(), 3 + len(pages))
        self.assertEqual(system.clean(), [])
        self.assertEqual(system.writings(), 3 + len(pages))
        refused(system, ("make", ("a",)))
        self.assertRaises(NoPage, system.write, -1)
        self.assertEqual(system.writings(), 3 + len(pages))

    def test_is_written(self):
        system = system_of([("make", ("a",))])
        self.assertEqual([system.is_written(number) for number in range(5)], [False] * 5)
        system.write(3)
        self.assertEqual([system.is_written(number=number) for number in range(5)], [False, True, False, False, False])
        for thing in no_whole_numbers() + [-1, 5, 6, SIXTY_FIGURES, -SIXTY_FIGURES, deep_list(), deep_tuple()]:
            self.stays(system, lambda: system.is_written(thing), NoChange, thing)
            self.stays(system, lambda: system.is_written(number=thing), NoChange, thing)
        self.told(lambda: System(first_image(2, 1)).is_written(0), NoChange, 0)

    def test_least(self):
        system = system_of([("make", ("a",))])
        self.assertEqual(system.least(), 0)
        system.write(0)
        self.assertEqual(system.least(), 3)
        system.write(3)
        self.assertEqual(system.least(), 1)
        system.write(1)
        self.assertEqual(system.least(), 3)
        system.write(3)
        self.assertIs(system.least(), None)

    def test_clean(self):
        system = system_of([("make", ("a",))])
        self.assertEqual(system.clean(), [0, 3, 1, 3])
        self.assertEqual(system.clean(), [])
        system.do(("put", ("a",), 0, "x"))
        system.do(("drop", ("a",)))
        self.assertEqual(system.clean(), [0, 4, 1, 3, 1, 0])
        self.assertEqual(system.disk(), system.memory())

    def test_clean_is_never_longer_than_told(self):
        chance = random.Random(82)
        for _ in range(120):
            system = System(any_first(chance))
            for _ in range(chance.randint(0, 40)):
                refused(system, any_deed(chance, system))
                if chance.random() < 0.2:
                    system.write(any_page(chance, system))
            twin, pages = system.twin(), []
            while twin.least() is not None:
                first = twin.unwritten()[0]
                pages.append(twin.least())
                self.assertEqual(pages[-1], first[1])
                self.assertEqual(twin.write(twin.least())[0], first[0])
            left, many = len(system.unwritten()), len(system.changes())
            self.assertEqual(system.clean(), pages)
            self.assertLessEqual(len(pages), left + len(system.changes()) - many)
            self.assertEqual(system.unwritten(), [])
            self.assertEqual(system.disk(), system.memory())

    def test_the_disk_behind_each_writing(self):
        chance = random.Random(83)
        for _ in range(60):
            image = any_first(chance)
            system = System(image)
            for _ in range(30):
                refused(system, any_deed(chance, system))
                if chance.random() < 0.5:
                    system.write(any_page(chance, system))
                    written = written_of(system)
                    changes = system.changes()
                    self.assertEqual(system.disk(), put_on(image, [changes[number] for number in written]))
                    self.assertIs(is_closed(changes, written), True)
                    self.assertEqual(breaks(system.disk()), [])
                    self.assertEqual(system.unwritten(), [row for row in changes if row[0] not in written])
                    self.assertEqual(system.memory(), put_on(image, changes))


class Helping(SystemTest):
    def test_begun(self):
        for act in (lambda one: one.do(("make", ("b",))), lambda one: one.do(("cut", ("a",), 0)),
                    lambda one: one.write(0), lambda one: one.add_change(0, ((1, False),), ()),
                    lambda one: one.lower(2, 1), lambda one: one.let_go(2, (1,)), lambda one: one.play([("write", 0)])):
            nodes = [folder(1, 0), file(1), file(1, 1), None]
            system = system_of([], image_of(nodes, [folder_page("a1"), file_page("x")]))
            self.assertIs(system.begun(), True)
            act(system)
            self.assertIs(system.begun(), False)
            system.clean()
            self.assertIs(system.begun(), False)
            self.assertIs(System(system.disk()).begun(), True)

    def test_still_begun(self):
        system = system_of([])
        refused(system, ("drop", ("a",)))
        self.assertRaises(NoPage, system.write, 99)
        system.clean()
        system.twin().do(("make", ("a",)))
        system.play([])
        self.assertRaises(NoStep, system.play, [("do", ("make", ("a",))), 5])
        self.assertIs(system.begun(), True)
        self.assertIs(system.twin().begun(), True)

    def test_nodes_and_names(self):
        system = system_of([*DEEDS, ("link", ("l",), ("d", "e", "z"))])
        self.assertEqual([system.node_of(path) for path in ((), ("d",), ("d", "x"), ("l",), ("y",))], [0, 1, 2, 2, 3])
        self.assertEqual(system.node_of(path=("d", "e", "z")), 2)
        self.assertEqual(system.name_places(()), [])
        self.assertEqual(system.name_places(path=("d", "e", "z")), [(3, 1), (4, 2), (7, 1)])
        self.assertEqual(system.name_places(("y",)), [(3, 3)])

    def test_add_change(self):
        system = system_of([("make", ("a",))])
        self.assertEqual(system.add_change(0, ((6, True), (7, True)), (0, 3)), 5)
        self.assertEqual(system.changes()[5], (5, 0, ((6, True), (7, True)), (0, 3)))
        self.assertEqual(system.add_change(page=0, puts=((6, False),), leans=()), 6)
        self.assertEqual(system.memory()[0], (True,) + (False,) * 6 + (True,))
        self.assertEqual(system.write(0), [0])
        self.assertEqual(system.write(1), [3])
        self.assertEqual(system.write(0), [5, 6])

    def test_lower(self):
        image = image_of([folder(2, 0), file(5, 1, 2), None], [folder_page("a1"), file_page("x"), file_page("y")])
        system = System(image)
        self.assertEqual(system.lower(1, 2), 0)
        self.assertEqual(system.lower(1, 1), 1)
        self.assertEqual(system.lower(0, 1), 2)
        self.assertEqual(system.changes(), [
            (0, 1, ((1, ("file", 3, (1, 2))),), ()), (1, 1, ((1, ("file", 2, (1, 2))),), ()),
            (2, 1, ((0, ("folder", 1, (0,))),), ()),
        ])
        self.assertEqual(system.lower(1, 2), 3)
        self.assertEqual(system.changes()[3], (3, 1, ((1, None),), ()))
        self.assertEqual(system.write(1), [0, 1, 2, 3])
        self.assertEqual(system.unwritten(), [(4, 0, ((1, False),), ()), (5, 0, ((2, False),), ())])

    def test_let_go(self):
        image = image_of([folder(1), file(5, 1, 0), file(1)], [file_page("x"), file_page("y"), EMPTY])
        system = System(image)
        self.assertEqual(system.let_go(1, (1, 0)), 0)
        self.assertEqual(system.let_go(node=2, pages=()), 1)
        self.assertEqual(system.changes(), [(0, 1, ((1, None),), ()), (1, 1, ((2, None),), ())])
        self.assertEqual(system.write(1), [0, 1])
        self.assertEqual(system.unwritten(), [(2, 0, ((0, False),), ()), (3, 0, ((1, False),), ())])


STEPS = [("do", ("make", ("a",))), ("write", 0), ("do", ("put", ("a",), 0, "x")), ("clean",), ("do", ("drop", ("a",))),
         ("write", 3), ("clean",), ("clean",), ("write", 1)]


class Playing(SystemTest):
    def test_told_is_what_each_told(self):
        system = system_of([])
        self.assertEqual(system.play(STEPS), [
            [0, 1, 2, 3, 4], [0], [5, 6, 7], [3, 1, 3, 0, 4, 1], [8], [8], [1, 0], [], [],
        ])
        self.assertEqual(system.play(steps=[]), [])

    def test_against_a_twin(self):
        chance = random.Random(84)
        for _ in range(120):
            system = System(any_first(chance), without=tuple(chance.sample(RULES, chance.choice((0, 0, 1)))))
            for _ in range(4):
                twin, steps, told, bad = system.twin(), [], [], None
                for _ in range(chance.randint(0, 12)):
                    steps.append(chance.choice((
                        ("do", any_deed(chance, twin)), ("do", any_deed(chance, twin)),
                        ("write", any_page(chance, twin)), ("clean",),
                    )))
                    if bad is None and steps[-1][0] == "do":
                        bad = refused(twin.twin(), steps[-1][1])
                    if bad is None:
                        act = {"do": twin.do, "write": twin.write, "clean": twin.clean}[steps[-1][0]]
                        told.append(act(*steps[-1][1:]))
                before, handed = state(system), copy.deepcopy(steps)
                if bad is None:
                    self.assertEqual(system.play(steps), told)
                    self.assertEqual(state(system), state(twin))
                    self.assertEqual(system, twin)
                else:
                    with self.assertRaises(bad[0]) as held:
                        system.play(steps)
                    self.assertEqual(list(vars(held.exception).values()), bad[1])
                    self.assertEqual(state(system), before)
                self.assertEqual(steps, handed)

    def test_no_steps_by_form(self):
        system = system_of([("make", ("z",))])
        things = things_of_any_kind() + [
            (), ("do",), ("do", ("make", ("y",)), 1), ["do", ("make", ("y",))], ("write",), ("write", 0, 0),
            ("clean", 0), ["clean"], "clean", ("Clean",), ("play", []), (["clean"],), (Prickly(), 0), (b"clean",),
            (None,), ("", 0),
        ]
        for thing in things:
            for at in range(3):
                steps = [("write", 0), ("do", ("make", ("a",)))][:at] + [thing, ("none",), Prickly()]
                self.stays(system, lambda: system.play(steps), NoStep, at)

    def test_of_no_list(self):
        system = system_of([("make", ("z",))])
        for thing in things_of_any_kind() + [(), (("clean",),), STEPS[0], tuple(STEPS), {0: ("clean",)}]:
            if not isinstance(thing, list):
                self.stays(system, lambda: system.play(thing), NoStep, None)

    def test_refused_in_the_midst(self):
        system = system_of([("make", ("z",))])
        for at in range(len(STEPS)):
            for step, error, fields in (
                (("do", ("drop", ("q",))), NoPath, [("q",)]), (("do", 5), NoDeed, []), (("write", 99), NoPage, [99]),
                (("write", True), NoPage, [True]), (("do", ("make", ("z",))), There, [("z",)]),
                (("do", ("put", ("z",), 2, "")), NoPart, [2]),
            ):
                steps = STEPS[:at] + [step, ("write", None), 7]
                self.stays(system, lambda: system.play(steps), error, *fields)

    def test_what_stands_behind_is_not_looked_at(self):
        system = system_of([])
        self.stays(system, lambda: system.play([("write", -1), Prickly(), None]), NoPage, -1)
        self.stays(system, lambda: system.play([("clean",), ("do", ()), Prickly()]), NoDeed)

    def test_full_in_the_midst(self):
        system = system_of([], first_image(2, 1))
        self.stays(system, lambda: system.play([STEPS[0], ("clean",), ("do", ("make", ("b",)))]), Full, "nodes")

    def test_log(self):
        system = system_of([])
        system.play(STEPS)
        self.assertEqual(system.log(), ["begin", "end"])
        for steps, error in (([5], NoStep), (None, NoStep), ([("write", 99)], NoPage), ([("do", None)], NoDeed)):
            self.assertRaises(error, system.play, steps)
        system.play([])
        system.do(("make", ("a",)))
        system.write(0)
        self.assertEqual(system.log(), ["begin", "end"] * 6)


class Twins(SystemTest):
    def test_they_go_on_by_themselves(self):
        system = system_of(DEEDS)
        system.write(0)
        system.play([("write", 1)])
        twin = system.twin()
        self.assertEqual(state(twin), state(system))
        self.assertEqual((twin.log(), system.log()), ([], ["begin", "end"]))
        before = state(system)
        twin.play([("do", ("drop", ("l",))), ("clean",)])
        self.assertEqual(state(system), before)
        kept = state(twin)
        system.do(("make", ("q",)))
        system.clean()
        self.assertEqual(state(twin), kept)
        self.assertEqual((twin.log(), system.log()), (["begin", "end"], ["begin", "end"]))

    def test_what_waits_waits_for_the_twin_too(self):
        system = system_of([("make", ("a",)), ("put", ("a",), 0, "x")])
        system.clean()
        system.do(("drop", ("a",)))
        twin = system.twin()
        self.assertEqual(twin.clean(), [3, 1, 0])
        self.assertEqual(system.clean(), [3, 1, 0])
        self.assertEqual(twin.changes(), system.changes())

    def test_of_a_system_whose_disk_breaks(self):
        system = system_of([("make", ("a",))], without=("filled",))
        system.write(0)
        system.write(1)
        self.assertNotEqual(breaks(system.disk()), [])
        twin = system.twin()
        self.assertEqual(twin, system)
        self.assertEqual(twin.play([("clean",)]), [system.clean()])
        self.assertEqual(twin, system)


class Alike(SystemTest):
    def alike(self, one, other):
        self.assertIs(one == other, True)
        self.assertIs(other == one, True)
        self.assertIs(one != other, False)

    def unlike(self, one, other):
        self.assertIs(one == other, False)
        self.assertIs(other == one, False)
        self.assertIs(one != other, True)

    def test_alike(self):
        self.alike(system_of([]), system_of([]))
        self.alike(system_of(DEEDS), system_of(DEEDS))
        system = system_of(DEEDS)
        self.alike(system, system)
        self.alike(system, system.twin())
        system.clean()
        self.alike(system, System(system.disk()))
        other = System(system.disk())
        other.write(0)
        other.play([])
        self.assertRaises(NoStep, other.play, None)
        self.alike(system, other)

    def test_of_other_images(self):
        self.unlike(system_of([], first_image(2, 1)), system_of([], first_image(3, 1)))
        self.unlike(system_of([]), system_of([("make", ("a",))]))
        one, other = system_of([("make", ("a",))]), system_of([("make", ("a",))])
        one.write(3)
        self.unlike(one, other)
        other.write(3)
        self.alike(one, other)

    def test_of_other_unwritten_changes(self):
        one, other = system_of([("make", ("a",)), ("put", ("a",), 0, "x")]), system_of([])
        self.assertEqual(other.play([("do", ("make", ("a",))), ("do", ("put", ("a",), 0, "y"))])[1], [5, 6, 7])
        other.do(("put", ("a",), 0, "x"))
        self.assertEqual(one.memory(), other.memory())
        self.unlike(one, other)
        # The images are alike, and the changes, but for their numbers.
        one, other = system_of([("make", ("a",))]), system_of([("make", ("a",)), ("put", ("a",), 0, "x")])
        one.clean()
        other.clean()
        one = System(other.disk())
        one.do(("put", ("a",), 0, "y"))
        other.do(("put", ("a",), 0, "y"))
        self.assertEqual((one.disk(), one.memory()), (other.disk(), other.memory()))
        self.unlike(one, other)

    def test_of_other_things_that_wait(self):
        image = image_of([folder(1), file(1, 0), None], [file_page("x"), EMPTY])
        systems = [System(image) for _ in range(4)]
        systems[0].let_go(1, (0,))
        systems[1].let_go(1, ())
        systems[2].add_change(1, ((1, None),), ())
        systems[3].let_go(1, (0,))
        for system in systems:
            self.assertEqual(system.changes(), systems[0].changes())
        self.unlike(systems[0], systems[1])
        self.unlike(systems[0], systems[2])
        self.alike(systems[0], systems[3])
        self.alike(systems[1], systems[2])

    def test_of_other_rules(self):
        self.unlike(system_of([]), system_of([], without=("made",)))
        self.unlike(system_of([], without=("way",)), system_of([], without=("made",)))
        self.unlike(system_of([], without=("way",)), system_of([], without=("made", "way")))
        self.alike(system_of([], without=("way", "made")), system_of([], without=("made", "way")))
        self.alike(system_of([], without=RULES), system_of([], without=RULES[::-1]))

    def test_like_nothing_else(self):
        system = system_of([])
        for thing in things_of_any_kind() + [(), Tree(), system.disk(), system.likeness()]:
            if not isinstance(thing, Prickly):
                self.assertIs(thing == system, False)
            self.assertIs(system == thing, False)


if __name__ == "__main__":
    unittest.main()
