"""Images: points [2], [4] and [5]."""

import unittest

from tests.things import SIXTY_FIGURES, Prickly, Unhashable, cyclic_list, no_whole_numbers
from writeorders.errors import NoPage, NoSize
from writeorders.images import (
    disk_pages, first_image, is_image, is_name, page_of_data, page_of_node, place_of_bit, slots_of, with_slots,
)

EMPTY = (None, None, None, None, None)

GOOD = (
    (True, True, False, True),
    (("folder", 1, (0,)), ("file", 99, (1, 3)), None, ("folder", 0, ()), ("file", 2, (2, 2, 0))),
    (
        ("folder", ("a", 1), None, ("abcdefgh", 4), ("z", 0)),
        ("file", "a text, 1", None, None, None),
        EMPTY,
        ("file", "", None, None, None),
    ),
)


def replaced(thing, path, worth):
    """The tuples, in which worth stands at the path of indexes."""
    if not path:
        return worth
    at = path[0]
    return thing[:at] + (replaced(thing[at], path[1:], worth),) + thing[at + 1:]


def all_tuples(thing, path=()):
    """The paths of all tuples within one another."""
    if isinstance(thing, tuple):
        yield path
        for at, part in enumerate(thing):
            yield from all_tuples(part, path + (at,))


def at_path(thing, path):
    for at in path:
        thing = thing[at]
    return thing


def an_image(nodes, pages):
    """An image of these sizes of which no two slots are alike."""
    return (
        tuple(page % 2 == 0 for page in range(pages)),
        tuple(None if node == 1 else ("folder", node, ()) for node in range(nodes)),
        tuple(("file", "page " + str(page), None, None, None) for page in range(pages)),
    )


class Names(unittest.TestCase):
    def test_names(self):
        for name in ("a", "z", "m", "ab", "zzzzzzz", "abcdefgh", "zzzzzzzz"):
            self.assertIs(is_name(name), True, name)

    def test_lengths_beyond(self):
        for name in ("", "abcdefghi", "a" * 9, "a" * 40, "a" * 9000):
            self.assertIs(is_name(name), False, name)

    def test_other_signs_at_each_place(self):
        signs = "`{AZMBY09_-/. \n\t'\"" + chr(0) + chr(127) + chr(0xE9) + chr(0xDF) + chr(0x430) + chr(0x1D41A)
        for sign in signs:
            for name in (sign, sign + "bc", "a" + sign + "c", "ab" + sign, "abcdefg" + sign):
                self.assertIs(is_name(name), False, repr(name))

    def test_only_small_letters_are_letters(self):
        for code in range(300):
            self.assertIs(is_name(chr(code)), 97 <= code <= 122)

    def test_of_anything(self):
        for thing in no_whole_numbers() + [0, 1, -1, SIXTY_FIGURES, Unhashable(1), ("a",), ["a"], {"a": 1}]:
            self.assertIs(is_name(thing), isinstance(thing, str) and thing in ("a", "file"))

    def test_by_name(self):
        self.assertIs(is_name(thing="a"), True)
        self.assertIs(is_name(thing=b"a"), False)


class WhatIsAnImage(unittest.TestCase):
    def no_image(self, path, worths):
        for worth in worths:
            self.assertIs(is_image(replaced(GOOD, path, worth)), False, path)

    def an_image(self, path, worths):
        for worth in worths:
            self.assertIs(is_image(replaced(GOOD, path, worth)), True, (path, worth))

    def test_good(self):
        self.assertIs(is_image(GOOD), True)
        self.assertIs(is_image(thing=GOOD), True)

    def test_of_anything(self):
        for thing in no_whole_numbers() + [0, 1, -1, SIXTY_FIGURES, "image", cyclic_list()]:
            self.assertIs(is_image(thing), False)

    def test_things_of_other_kinds_at_each_tuple(self):
        for path in all_tuples(GOOD):
            node_or_entry = len(path) == 2 and path[0] == 1 or len(path) == 3 and path[0] == 2
            pages_of_a_node = len(path) == 3 and path[0] == 1
            for thing in no_whole_numbers() + [0, 1, SIXTY_FIGURES]:
                if thing is None and node_or_entry:
                    continue
                if isinstance(thing, tuple) and pages_of_a_node:
                    continue
                self.no_image(path, [thing])

    def test_none_for_a_node_or_a_name_is_one(self):
        for path in ((1, 0), (1, 1), (1, 4), (2, 0, 1), (2, 0, 3), (2, 0, 4)):
            self.an_image(path, [None])

    def test_lists_for_tuples_at_each_depth(self):
        for path in all_tuples(GOOD):
            self.no_image(path, [list(at_path(GOOD, path))])

    def test_one_more_and_one_less_at_each_tuple_of_a_length(self):
        for path in all_tuples(GOOD):
            if path == (1,) or len(path) == 3 and path[0] == 1:
                continue
            row = at_path(GOOD, path)
            self.no_image(path, [row[:-1], row + (None,), row + row, row + (row[0],)])

    def test_truths_of_the_map(self):
        for at in range(4):
            self.an_image((0, at), [True, False])
            self.no_image((0, at), [0, 1, 2, None, "", "True", 1.0, [], (), (True,), Prickly()])

    def test_kinds(self):
        for node in (0, 1, 3):
            self.an_image((1, node, 0), ["file", "folder"])
            self.no_image((1, node, 0), ["", "File", "files", "folde", "free", "empty", "file ", b"file"])
            self.no_image((1, node, 0), no_whole_numbers()[:12] + [0, Prickly(), ("file",), ["file"], "a"])

    def test_links(self):
        for node in (0, 1, 3):
            self.an_image((1, node, 1), [0, 1, 50, 98, 99])
            self.no_image((1, node, 1), [-1, 100, -SIXTY_FIGURES, SIXTY_FIGURES])
            self.no_image((1, node, 1), no_whole_numbers())

    def test_pages_of_a_node(self):
        for node in (0, 1, 3):
            self.an_image((1, node, 2), [(), (0,), (3,), (0, 3), (3, 0), (1, 1), (0, 1, 2), (3, 3, 3)])
            self.no_image((1, node, 2), [(0, 1, 2, 3), (0, 0, 0, 0), [], [0], None, "", "0", 0, {}, {0: 1}])
            for row in ((None,), (0, None), (None, 0), (0, None, 0), (None, 0, 0), (0, 0, None)):
                for number in [-1, 4, SIXTY_FIGURES, -SIXTY_FIGURES] + no_whole_numbers():
                    self.no_image((1, node, 2), [tuple(number if part is None else part for part in row)])

    def test_nodes_point_to_pages_of_this_image_alone(self):
        for pages in range(1, 17):
            image = first_image(2, pages)
            for page in range(-1, 18):
                thing = replaced(image, (1, 0, 2), (page,))
                self.assertIs(is_image(thing), 0 <= page < pages)

    def test_numbers_of_nodes(self):
        for many in range(20):
            node = ("folder", 1, ())
            for row in ((node,) * many, (None,) * many):
                self.assertIs(is_image(replaced(first_image(2, 3), (1,), row)), 2 <= many <= 16)

    def test_numbers_of_data_pages(self):
        for many in range(20):
            _, nodes, _ = first_image(2, 1)
            self.assertIs(is_image(((True,) * many, nodes, (EMPTY,) * many)), 1 <= many <= 16)

    def test_as_many_bits_as_data_pages(self):
        _, nodes, _ = first_image(2, 1)
        for bits in range(1, 17):
            for pages in range(1, 17):
                self.assertIs(is_image(((False,) * bits, nodes, (EMPTY,) * pages)), bits == pages)

    def test_bad_nodes_and_data_pages_at_each_place(self):
        image = first_image(16, 16)
        for at in range(16):
            for thing in ((), False, 0, "file", ("file", 1), ("file", 1, (16,)), [None]):
                self.assertIs(is_image(replaced(image, (1, at), thing)), False)
            for thing in ((), None, (None,) * 4, (None,) * 6, [None] * 5, ("file",) + (None,) * 4):
                self.assertIs(is_image(replaced(image, (2, at), thing)), False)
            self.assertIs(is_image(replaced(image, (0, at), 0)), False)
            self.assertIs(is_image(replaced(image, (1, at), ("file", 0, (15, 0, 15)))), True)
            self.assertIs(is_image(replaced(image, (2, at), ("folder", None, None, None, ("a", 15)))), True)
            self.assertIs(is_image(replaced(image, (2, at), ("folder", None, None, None, ("a", 16)))), False)

    def test_first_slots(self):
        for page in range(4):
            for thing in no_whole_numbers() + [0, 1, "File", "folders", "empty", "free"]:
                if thing is None or isinstance(thing, str) and thing in ("file", "folder"):
                    continue
                self.no_image((2, page), [(thing, None, None, None, None), (thing, "text", None, None, None)])

    def test_a_page_never_filled_has_nothing(self):
        for at in range(1, 5):
            self.no_image((2, 2, at), ["", "text", ("a", 1), 0, False, (), [], Prickly()])

    def test_a_file_page_has_one_text(self):
        self.no_image((2, 1, 1), [None, ("a", 1), 0, False, True, (), [], b"text", ["text"], Prickly(), 1.5])
        for at in range(2, 5):
            self.no_image((2, 1, at), ["", "text", ("a", 1), 0, False, (), [], Prickly()])

    def test_a_folder_page_has_names(self):
        self.an_image((2, 0), [("folder", None, None, None, None), ("folder", ("a", 1), ("a", 1), ("a", 1), ("a", 1))])
        for at in range(1, 5):
            self.an_image((2, 0, at), [None, ("a", 0), ("abcdefgh", 4)])
            self.no_image((2, 0, at), [["a", 1], ("a",), ("a", 1, 1), (1, "a"), "a", "a1", 1, (), True, False])
            self.no_image((2, 0, at), [(name, 1) for name in ("", "abcdefghi", "A", "a b", "a/", "1", "`", "{")])
            self.no_image((2, 0, at), [(name, 1) for name in no_whole_numbers() if not is_name(name)])
            self.no_image((2, 0, at), [("a", node) for node in (-1, 5, 16, SIXTY_FIGURES, -SIXTY_FIGURES)])
            self.no_image((2, 0, at), [("a", node) for node in no_whole_numbers()])

    def test_names_lead_to_nodes_of_this_image_alone(self):
        for nodes in range(2, 17):
            image = replaced(first_image(nodes, 1), (2, 0), ("folder", None, None, None, None))
            for node in range(-1, 18):
                self.assertIs(is_image(replaced(image, (2, 0, 1), ("a", node))), 0 <= node < nodes)

    def test_lengths_of_texts(self):
        self.an_image((2, 1, 1), ["", " ", "~", "a" * 39, "a" * 40, " " * 40, "~" * 40])
        self.no_image((2, 1, 1), ["a" * 41, " " * 41, "a" * 400, "a" * 9000])

    def test_signs_of_texts(self):
        for code in list(range(300)) + [0x2028, 0x1F600]:
            for text in (chr(code), "a" + chr(code) + "b", "a" * 39 + chr(code), chr(code) * 40):
                thing = replaced(GOOD, (2, 1, 1), text)
                self.assertIs(is_image(thing), 32 <= code <= 126)

    def test_an_image_may_break(self):
        for worth in (None, ("file", 0, ())):
            self.an_image((1, 0), [worth])
        self.an_image((0,), [(False,) * 4])


class FirstImages(unittest.TestCase):
    def test_small(self):
        self.assertEqual(first_image(2, 1), ((False,), (("folder", 1, ()), None), (EMPTY,)))

    def test_all_sizes(self):
        for nodes in range(2, 17):
            for pages in range(1, 17):
                image = first_image(nodes, pages)
                wanted = (False,) * pages, (("folder", 1, ()),) + (None,) * (nodes - 1), (EMPTY,) * pages
                self.assertEqual(repr(image), repr(wanted))
                self.assertIs(is_image(image), True)
                self.assertEqual(first_image(pages=pages, nodes=nodes), wanted)

    def refused(self, number, nodes, pages):
        with self.assertRaises(NoSize) as held:
            first_image(nodes, pages)
        self.assertIs(held.exception.number, number)
        with self.assertRaises(NoSize) as held:
            first_image(pages=pages, nodes=nodes)
        self.assertIs(held.exception.number, number)

    def test_beyond_the_bounds(self):
        for number in (-SIXTY_FIGURES, -2, -1, 0, 1, 17, 18, 100, SIXTY_FIGURES):
            for pages in (1, 2, 16):
                self.refused(number, number, pages)
        for number in (-SIXTY_FIGURES, -2, -1, 0, 17, 18, 100, SIXTY_FIGURES):
            for nodes in (2, 3, 16):
                self.refused(number, nodes, number)

    def test_of_anything(self):
        for thing in no_whole_numbers():
            self.refused(thing, thing, 1)
            self.refused(thing, 2, thing)
            self.refused(thing, 16, thing)

    def test_the_first_that_is_none_is_told(self):
        for other in no_whole_numbers() + [-1, 0, 17, SIXTY_FIGURES]:
            self.refused(1, 1, other)
            self.refused(17, 17, other)
            thing = Prickly()
            self.refused(thing, thing, other)


class DiskPages(unittest.TestCase):
    def images(self):
        for nodes in range(2, 17):
            for pages in (1, 2, 3, 5, 16):
                yield nodes, pages, an_image(nodes, pages)

    def rows(self, image):
        """The slots of all pages, made another way: nodes by four."""
        taken, nodes, data = image
        of_nodes = {}
        for node, worth in enumerate(nodes):
            of_nodes.setdefault(node // 4, []).append(worth)
        return [taken] + [tuple(of_nodes[at]) for at in range(len(of_nodes))] + list(data)

    def test_how_many(self):
        for nodes, pages, image in self.images():
            self.assertEqual(disk_pages(image), len(self.rows(image)))
        for nodes, pages, wanted in ((2, 1, 3), (4, 1, 3), (5, 1, 4), (8, 8, 11), (9, 8, 12), (16, 16, 21)):
            self.assertEqual(disk_pages(first_image(nodes, pages)), wanted)
        self.assertEqual(disk_pages(image=first_image(13, 2)), 7)

    def test_the_slots_of_each_page(self):
        for _, _, image in self.images():
            for page, row in enumerate(self.rows(image)):
                told = slots_of(image, page)
                self.assertEqual(told, row)
                self.assertIsInstance(told, tuple)

    def test_a_small_disk_by_hand(self):
        nodes = tuple(("file", links, ()) for links in range(6))
        data = (("file", "x", None, None, None), EMPTY)
        image = ((True, False), nodes, data)
        self.assertEqual(disk_pages(image), 5)
        self.assertEqual(slots_of(image, 0), (True, False))
        self.assertEqual(slots_of(image, 1), nodes[:4])
        self.assertEqual(slots_of(image, 2), nodes[4:])
        self.assertEqual(slots_of(page=3, image=image), data[0])
        self.assertEqual(slots_of(image, 4), EMPTY)

    def test_other_slots_at_each_page(self):
        for _, _, image in self.images():
            rows = self.rows(image)
            for page, row in enumerate(rows):
                other = tuple(("other", slot) for slot in range(len(row)))
                told = with_slots(image, page, other)
                self.assertEqual(self.rows(told), rows[:page] + [other] + rows[page + 1:])
                self.assertEqual([len(part) for part in told], [len(part) for part in image])
                self.assertTrue(all(isinstance(part, tuple) for part in (told,) + told))
                self.assertEqual(image, an_image(len(image[1]), len(image[0])))
                self.assertEqual(with_slots(told, page, row), image)
                self.assertEqual(with_slots(image, page, row), image)

    def test_other_slots_make_an_image(self):
        image = first_image(6, 2)
        other = with_slots(image, 2, (("file", 1, (1,)), None))
        other = with_slots(slots=("folder", ("a", 4), None, None, None), page=3, image=other)
        other = with_slots(other, 0, (False, True))
        self.assertEqual(other, (
            (False, True),
            (("folder", 1, ()), None, None, None, ("file", 1, (1,)), None),
            (("folder", ("a", 4), None, None, None), EMPTY),
        ))
        self.assertIs(is_image(other), True)
        self.assertEqual(image, first_image(6, 2))

    def test_places(self):
        for nodes, pages, image in self.images():
            rows = self.rows(image)
            for node in range(nodes):
                page, slot = place = page_of_node(image, node)
                self.assertEqual(place, (1 + node // 4, node % 4))
                self.assertEqual(rows[page][slot], image[1][node])
            for number in range(pages):
                page, slot = place = page_of_data(image, number)
                self.assertEqual(place, (len(rows) - pages + number, 0))
                self.assertEqual(rows[page], image[2][number])
                self.assertEqual(place_of_bit(image, number), (0, number))
                self.assertEqual(rows[0][number], image[0][number])

    def test_places_by_name(self):
        image = first_image(10, 5)
        self.assertEqual(page_of_node(node=9, image=image), (3, 1))
        self.assertEqual(page_of_node(image, 3), (1, 3))
        self.assertEqual(page_of_node(image, 4), (2, 0))
        self.assertEqual(page_of_data(page=4, image=image), (8, 0))
        self.assertEqual(place_of_bit(page=4, image=image), (0, 4))

    def refused(self, image, page):
        with self.assertRaises(NoPage) as held:
            slots_of(image, page)
        self.assertIs(held.exception.page, page)
        with self.assertRaises(NoPage) as held:
            with_slots(image, page, EMPTY)
        self.assertIs(held.exception.page, page)

    def test_no_page(self):
        for _, _, image in self.images():
            first_beyond = len(self.rows(image))
            for page in (-1, first_beyond, first_beyond + 1, -first_beyond, SIXTY_FIGURES, -SIXTY_FIGURES):
                self.refused(image, page)

    def test_no_page_of_anything(self):
        for image in (first_image(2, 1), an_image(13, 16)):
            for page in no_whole_numbers():
                self.refused(image, page)

    def test_whatever_the_slots_have(self):
        thing = Prickly()
        image = with_slots(first_image(2, 2), 3, (thing, [1], {}, set(), thing))
        self.assertIs(slots_of(image, 3)[0], thing)
        self.assertIs(slots_of(image, 3)[4], thing)
        self.assertEqual(slots_of(image, 2), EMPTY)
        self.assertEqual(disk_pages(image), 4)


if __name__ == "__main__":
    unittest.main()
