"""What breaks in an image, and what leaks there: point [7], with [2] and [4]."""

import copy
import unittest

from tests.small_images import (
    EMPTY, any_image, breaks_by_words, come_to_by_words, file, file_page, folder, folder_page, image_of,
    leaks_by_words, many_images, sound_image,
)
from writeorders.errors import Broken
from writeorders.images import first_image, is_image
from writeorders.looker import breaks, come_to, leaks

# /a a file of two pages, /b a folder with /b/c, the same file.
SOUND = image_of(
    [folder(1, 0), file(2, 2, 1), folder(1, 3), None],
    [folder_page("a1", None, "b2"), file_page("second"), file_page("first"), folder_page("c1"), EMPTY],
)


class ComeTo(unittest.TestCase):
    def told(self, image, wanted):
        self.assertIs(is_image(image), True)
        told = come_to(image)
        self.assertIsInstance(told, list)
        self.assertEqual(told, wanted)
        self.assertEqual(come_to(image=image), wanted)

    def test_node_0_always(self):
        for worth in (folder(1), folder(0), file(1), file(0, 0), None):
            self.told(image_of([worth, None], [EMPTY]), [0])

    def test_by_names(self):
        self.told(SOUND, [0, 1, 2])

    def test_rising_whatever_the_ways(self):
        nodes = [folder(1, 0), folder(1, 1), file(1), folder(1, 2), folder(1, 3), None]
        data = [folder_page("a4"), folder_page("b2"), folder_page("c1"), folder_page("d3")]
        self.told(image_of(nodes, data), [0, 1, 2, 3, 4])

    def test_free_nodes_and_node_0_are_come_to_by_names(self):
        self.told(image_of([folder(1, 0), None, None, None], [folder_page("a3", "b0")]), [0, 3])

    def test_each_slot_of_each_page(self):
        data = [folder_page("a1", "b2", "c3", "d4"), folder_page("e5", "f6", "g7", "h8"), folder_page(None, "i9")]
        self.told(image_of([folder(1, 2, 0, 1), *[None] * 9], data), list(range(10)))
        self.told(image_of([folder(1, 1), *[None] * 9], data), [0, 5, 6, 7, 8])

    def test_pages_that_are_not_taken_have_names_all_the_same(self):
        self.told(image_of([folder(1, 0), None, None], [folder_page("a2")], free=[0]), [0, 2])

    def test_names_in_pages_of_folders_that_are_not_come_to(self):
        nodes = [folder(1, 0), folder(1, 1), folder(1, 2), file(1)]
        self.told(image_of(nodes, [EMPTY, folder_page("a3"), folder_page("a1", "b2")]), [0])

    def test_names_in_pages_that_a_file_points_to(self):
        nodes = [folder(1, 0), file(1, 1), None]
        self.told(image_of(nodes, [folder_page("a1"), folder_page("b2")]), [0, 1])
        self.told(image_of([file(1, 0), None], [folder_page("a1")]), [0])

    def test_names_in_pages_that_nobody_points_to(self):
        self.told(image_of([folder(1), None], [folder_page("a1")]), [0])

    def test_pages_of_files_and_pages_never_filled_have_no_names(self):
        self.told(image_of([folder(1, 0, 1), None], [file_page("a1"), EMPTY]), [0])

    def test_leading_back(self):
        nodes = [folder(1, 0), folder(1, 1), folder(1, 2)]
        self.told(image_of(nodes, [folder_page("a1"), folder_page("b2"), folder_page("c1", "d0")]), [0, 1, 2])
        self.told(image_of([folder(1, 0), None], [folder_page("a0")]), [0])

    def test_as_the_words_say(self):
        for image in many_images(any_image, 1, 1500) + many_images(sound_image, 2, 300):
            self.told(image, come_to_by_words(image))


class Breaks(unittest.TestCase):
    def told(self, image, wanted):
        self.assertIs(is_image(image), True)
        told = breaks(image)
        self.assertIsInstance(told, list)
        self.assertEqual(told, wanted)
        self.assertEqual(breaks(image=image), wanted)
        self.assertEqual(breaks_by_words(image), wanted)

    def test_first_images_of_all_sizes(self):
        for nodes in range(2, 17):
            for pages in range(1, 17):
                image = first_image(nodes, pages)
                self.told(image, [])
                self.assertEqual(come_to(image), [0])
                self.assertEqual(leaks(image), [])

    def test_sound(self):
        self.told(SOUND, [])

    def test_a_name_leads_to_a_free_node(self):
        image = image_of([folder(1, 0), None, None], [folder_page("a2")])
        self.told(image, [("node", 2)])
        image = image_of([folder(1, 0), None, None, None], [folder_page("a3", "b1", "c3")])
        self.told(image, [("node", 1), ("node", 3)])

    def test_free_nodes_that_are_not_come_to(self):
        image = image_of([folder(1), folder(1, 0), None], [folder_page("a2")])
        self.told(image, [])

    def test_node_0_is_no_folder(self):
        self.told(image_of([None, None], [EMPTY]), [("first", 0)])
        self.told(image_of([file(1), None], [EMPTY]), [("first", 0)])
        self.told(image_of([file(9, 0), None], [file_page("text")]), [("first", 0)])
        self.told(image_of([None, folder(1, 0)], [folder_page("a0", "b1")]), [("first", 0)])

    def test_a_page_that_is_not_taken(self):
        nodes = [folder(1, 0), file(1, 2)]
        data = [folder_page("a1"), EMPTY, file_page("text")]
        self.told(image_of(nodes, data), [])
        self.told(image_of(nodes, data, free=[2]), [("page", 1, 2)])
        self.told(image_of(nodes, data, free=[0]), [("page", 0, 0)])
        self.told(image_of(nodes, data, free=[0, 2]), [("page", 0, 0), ("page", 1, 2)])

    def test_a_page_of_another_sort_or_never_filled(self):
        for slots, free in ((folder_page("b1"), ()), (folder_page(), ()), (EMPTY, (1,))):
            taken, nodes, data = image_of([folder(1, 0), file(1, 1)], [folder_page("a1"), slots])
            self.told(((True, True), nodes, data), [("sort", 1, 1)])
        taken, nodes, data = image_of([folder(1, 0, 1, 2), None], [EMPTY, file_page("text"), file_page("")])
        self.told(((True,) * 3, nodes, data), [("sort", 0, 0), ("sort", 0, 1), ("sort", 0, 2)])

    def test_a_page_that_is_not_taken_and_never_filled(self):
        self.told(image_of([folder(1, 0), None], [EMPTY]), [("page", 0, 0), ("sort", 0, 0)])

    def test_a_page_of_two_nodes(self):
        nodes = [folder(1, 0), file(1, 1), file(1, 2, 1)]
        data = [folder_page("a1", "b2"), file_page("one"), file_page("two")]
        self.told(image_of(nodes, data), [("two", 1)])
        nodes = [folder(1, 0), file(1, 1, 2), file(1, 2, 1)]
        self.told(image_of(nodes, data), [("two", 1), ("two", 2)])
        nodes = [folder(1, 0), file(1, 1), file(1, 1), file(1, 1)]
        self.told(image_of(nodes, [folder_page("a1", "b2", "c3"), file_page("one")]), [("two", 1)])

    def test_a_page_that_a_node_has_twice(self):
        nodes = [folder(1, 0), file(1, 1, 1)]
        self.told(image_of(nodes, [folder_page("a1"), file_page("one")]), [("two", 1)])
        nodes = [folder(1, 0), file(1, 2, 1, 2)]
        self.told(image_of(nodes, [folder_page("a1"), file_page("one"), file_page("two")]), [("two", 2)])
        nodes = [folder(1, 0, 0), None]
        self.told(image_of(nodes, [folder_page()]), [("two", 0)])

    def test_a_page_of_a_node_that_is_not_come_to(self):
        nodes = [folder(1, 0), file(1, 1), file(1, 1), folder(1, 0)]
        self.told(image_of(nodes, [folder_page("a1"), file_page("one")]), [])
        nodes = [folder(1, 0), file(1, 1), file(1, 2, 2), file(0, 2)]
        self.told(image_of(nodes, [folder_page("a1"), file_page("one"), file_page("two")]), [])

    def test_a_page_that_is_twice_and_not_taken_is_told_once(self):
        nodes = [folder(1, 0), file(1, 1, 1, 1)]
        data = [folder_page("a1"), folder_page()]
        self.told(image_of(nodes, data, free=[1]), [("page", 1, 1), ("sort", 1, 1), ("two", 1)])

    def test_less_links_than_names(self):
        data = [folder_page("a1", "b1"), folder_page("c1")]
        nodes = [folder(1, 0), file(2), None]
        self.told(image_of(nodes, data), [])
        self.told(image_of([folder(1, 0), file(1), None], data), [("links", 1)])
        self.told(image_of([folder(1, 0), file(0), None], data), [("links", 1)])
        self.told(image_of([folder(1, 0, 1), file(2), None], data), [("links", 1)])
        self.told(image_of([folder(1, 0, 1), file(3), None], data), [])

    def test_node_0_needs_one_more(self):
        self.told(image_of([folder(0), None], [EMPTY]), [("links", 0)])
        self.told(image_of([file(0), None], [EMPTY]), [("first", 0), ("links", 0)])
        data = [folder_page("a0", "b0")]
        self.told(image_of([folder(2, 0), None], data), [("links", 0), ("ring", 0)])
        self.told(image_of([folder(3, 0), None], data), [("ring", 0)])

    def test_links_of_free_nodes_are_none(self):
        image = image_of([folder(1, 0), None], [folder_page("a1", "b1")])
        self.told(image, [("node", 1)])

    def test_names_in_folders_that_are_not_come_to_need_no_links(self):
        nodes = [folder(1, 0), file(1), folder(1, 1), file(1, 2)]
        self.told(image_of(nodes, [folder_page("a1"), folder_page("b1", "c1"), folder_page("d1")]), [])

    def test_names_out_of_several_folders_are_counted_together(self):
        data = [folder_page("a1", "b2", "c3"), folder_page("d3"), folder_page("e3", "f2")]
        nodes = [folder(1, 0), folder(1, 1), folder(2, 2), file(3)]
        self.told(image_of(nodes, data), [("ring", 2)])
        data = [folder_page("a1", "b2", "c3"), folder_page("d3"), folder_page("e3")]
        self.told(image_of([folder(1, 0), folder(1, 1), folder(1, 2), file(2)], data), [("links", 3)])
        self.told(image_of([folder(1, 0), folder(1, 1), folder(1, 2), file(3)], data), [])

    def test_a_name_stands_twice(self):
        self.told(image_of([folder(1, 0), file(2)], [folder_page("a1", "a1")]), [("names", 0)])
        data = [folder_page("a1"), folder_page(None, None, None, "a2")]
        self.told(image_of([folder(1, 0, 1), file(1), file(1)], data), [("names", 0)])
        data = [folder_page("a1", "a1", "b1"), folder_page("b1", "a1")]
        self.told(image_of([folder(1, 0, 1), file(5)], data), [("names", 0)])

    def test_the_same_name_in_two_folders(self):
        nodes = [folder(1, 0), folder(1, 1), file(1)]
        self.told(image_of(nodes, [folder_page("a1"), folder_page("a2")]), [])

    def test_a_name_twice_in_a_folder_that_is_not_come_to(self):
        self.told(image_of([folder(1), folder(1, 0)], [folder_page("a1", "a1")]), [])

    def test_a_page_is_gone_through_each_time_that_a_folder_has_it(self):
        # Twice in one folder: the names stand twice, and two links are needed for each.
        data = [folder_page("a1")]
        self.told(image_of([folder(1, 0, 0), file(2)], data), [("names", 0), ("two", 0)])
        self.told(image_of([folder(1, 0, 0), file(1)], data), [("links", 1), ("names", 0), ("two", 0)])
        self.told(image_of([folder(1, 0, 0, 0), file(3)], data), [("names", 0), ("two", 0)])
        # In two folders: a link for each, and no name twice.
        data = [folder_page("a1", "b2"), folder_page("c3")]
        self.told(image_of([folder(1, 0), folder(1, 1), folder(1, 1), file(2)], data), [("two", 1)])
        nodes = [folder(1, 0), folder(1, 1), folder(1, 1), file(1)]
        self.told(image_of(nodes, data), [("links", 3), ("two", 1)])
        # A folder that isn't come to doesn't count.
        data = [folder_page("a1"), folder_page("c3")]
        self.told(image_of([folder(1, 0), folder(1, 1), folder(1, 1), file(1)], data), [])

    def test_a_folder_stands_within_itself(self):
        self.told(image_of([folder(1, 0), folder(2, 1)], [folder_page("a1"), folder_page("b1")]), [("ring", 1)])
        data = [folder_page("a1"), folder_page("b2"), folder_page("c1", "d3"), EMPTY]
        nodes = [folder(1, 0), folder(2, 1), folder(1, 2), folder(1)]
        self.told(image_of(nodes, data), [("ring", 1), ("ring", 2)])
        data = [folder_page("a1"), folder_page("b0")]
        self.told(image_of([folder(2, 0), folder(1, 1)], data), [("ring", 0), ("ring", 1)])

    def test_folders_in_a_ring_that_are_not_come_to(self):
        data = [EMPTY, folder_page("b2"), folder_page("c1")]
        self.told(image_of([folder(1), folder(1, 1), folder(1, 2)], data), [])

    def test_folders_nine_within_one_another_that_lead_back(self):
        def nodes(back):
            links = [2 if node == back else 1 for node in range(10)]
            return [folder(links[node], node) for node in range(10)]
        for back in range(10):
            data = [folder_page("a" + str(node + 1)) for node in range(9)] + [folder_page("b" + str(back))]
            self.told(image_of(nodes(back), data), [("ring", node) for node in range(back, 10)])
        data = [folder_page("a" + str(node + 1)) for node in range(9)] + [folder_page()]
        self.told(image_of(nodes(None), data), [])

    def test_two_ways_to_a_folder_are_no_ring(self):
        data = [folder_page("a1", "b2", "c3"), folder_page("d3"), folder_page("e3", "f1"), EMPTY]
        self.told(image_of([folder(1, 0), folder(2, 1), folder(1, 2), folder(3)], data), [])

    def test_several_at_once_sorted(self):
        nodes = [folder(0, 0), folder(1, 1, 4), file(1, 2, 4), None, folder(1, 3, 3), file(1, 2), None]
        data = [
            folder_page("a1", "a2", "b4", "c6"), folder_page("b1", "c3"), file_page("x"), folder_page("a5"), EMPTY,
        ]
        self.told(image_of(nodes, data, free=[2]), [
            ("links", 0), ("links", 1), ("links", 5), ("names", 0), ("names", 4), ("node", 3), ("node", 6),
            ("page", 1, 4), ("page", 2, 2), ("page", 2, 4), ("page", 5, 2), ("ring", 1),
            ("sort", 1, 4), ("sort", 2, 4), ("two", 2), ("two", 3), ("two", 4),
        ])

    def test_numbers_are_sorted_as_numbers(self):
        data = [folder_page("a2", "b10", "c11"), *[EMPTY] * 11]
        nodes = [folder(1, 0), None, file(1, 11, 2), *[None] * 7, file(1, 1), file(0)]
        self.told(image_of(nodes, data), [
            ("links", 11), ("page", 2, 2), ("page", 2, 11), ("page", 10, 1),
            ("sort", 2, 2), ("sort", 2, 11), ("sort", 10, 1),
        ])

    def test_a_free_page_that_keeps_its_slots(self):
        data = [folder_page("a1"), folder_page("a3", "a3", "b0"), file_page("old")]
        self.told(image_of([folder(1, 0), file(1), None, None], data, free=[1, 2]), [])

    def test_a_node_that_is_not_come_to_and_wrong_in_every_way(self):
        nodes = [folder(1, 0), file(1, 1), folder(0, 0, 1, 3), folder(0, 2, 2), None]
        data = [folder_page("a1"), file_page("text"), folder_page("x3", "x4", "y2", "z1"), EMPTY]
        image = image_of(nodes, data, free=[2])
        self.told(image, [])
        self.assertEqual(leaks(image), [("node", 2), ("node", 3)])

    def test_as_the_words_say(self):
        seen = {}
        for image in many_images(any_image, 3, 3000):
            wanted = breaks_by_words(image)
            self.told(image, wanted)
            for word in {row[0] for row in wanted} or {"none"}:
                seen[word] = seen.get(word, 0) + 1
        for word in ("node", "first", "page", "sort", "two", "links", "names", "ring", "none"):
            self.assertGreater(seen[word], 50, word)
        for image in many_images(sound_image, 4, 500):
            self.told(image, [])


class Leaks(unittest.TestCase):
    def told(self, image, wanted):
        self.assertIs(is_image(image), True)
        told = leaks(image)
        self.assertIsInstance(told, list)
        self.assertEqual(told, wanted)
        self.assertEqual(leaks(image=image), wanted)
        self.assertEqual(leaks_by_words(image), wanted)

    def test_none(self):
        self.told(SOUND, [])

    def test_bits(self):
        taken, nodes, data = SOUND
        self.told(((True,) * 5, nodes, data), [("bit", 4)])
        image = image_of([folder(1), None], [EMPTY, file_page("old"), folder_page("a1"), EMPTY])
        self.told(image, [("bit", 1), ("bit", 2)])
        self.told(((True,) * 4, *image[1:]), [("bit", page) for page in range(4)])
        self.told(((False,) * 4, *image[1:]), [])

    def test_bits_of_pages_of_nodes_that_are_not_come_to(self):
        nodes = [folder(1, 0), None, file(1, 1), folder(1, 2, 0)]
        data = [folder_page(), file_page("text"), folder_page("a2")]
        self.told(image_of(nodes, data), [("bit", 1), ("bit", 2), ("node", 2), ("node", 3)])
        self.told(image_of(nodes, data, free=[1]), [("bit", 2), ("node", 2), ("node", 3)])

    def test_nodes(self):
        nodes = [folder(1), file(0), None, folder(1), file(99)]
        self.told(image_of(nodes, [EMPTY]), [("node", 1), ("node", 3), ("node", 4)])

    def test_links(self):
        data = [folder_page("a1", "b1", "c2"), folder_page("d1")]
        nodes = [folder(1, 0), file(3), folder(1, 1)]
        self.told(image_of(nodes, data), [])
        self.told(image_of([folder(1, 0), file(4), folder(99, 1)], data), [("links", 1, 1), ("links", 2, 98)])
        self.told(image_of([folder(3, 0), file(3), folder(2, 1)], data), [("links", 0, 2), ("links", 2, 1)])

    def test_node_0_has_one_link_of_its_own(self):
        for links in range(1, 100):
            wanted = [("links", 0, links - 1)] if links > 1 else []
            self.told(image_of([folder(links), None], [EMPTY]), wanted)

    def test_names_in_folders_that_are_not_come_to_lead_to_nothing(self):
        nodes = [folder(1, 0), file(2), folder(1, 1)]
        self.told(image_of(nodes, [folder_page("a1"), folder_page("b1")]), [
            ("bit", 1), ("links", 1, 1), ("node", 2),
        ])

    def test_several_at_once_sorted(self):
        data = [folder_page("a10", "b2"), *[EMPTY] * 11]
        nodes = [folder(2, 0), None, file(4), file(1), *[None] * 6, folder(3), folder(1)]
        taken = (True, False, True, *[False] * 7, True, True)
        self.told((taken, tuple(nodes), tuple(data)), [
            ("bit", 2), ("bit", 10), ("bit", 11), ("links", 0, 1), ("links", 2, 3), ("links", 10, 2),
            ("node", 3), ("node", 11),
        ])

    def test_as_the_words_say(self):
        seen = {}
        for image in many_images(sound_image, 5, 800):
            wanted = leaks_by_words(image)
            self.told(image, wanted)
            for word in {row[0] for row in wanted} or {"none"}:
                seen[word] = seen.get(word, 0) + 1
        for word in ("bit", "node", "links", "none"):
            self.assertGreater(seen[word], 5, word)


class BrokenOnes(unittest.TestCase):
    def refused(self, image):
        with self.assertRaises(Broken) as held:
            leaks(image)
        self.assertIs(held.exception.__class__, Broken)
        with self.assertRaises(Broken):
            leaks(image=image)

    def test_each_kind_of_what_breaks(self):
        page, data = folder_page("a1"), file_page("text")
        broken = {
            "node": image_of([folder(1, 0), None], [page]),
            "first": image_of([file(1), None], [EMPTY]),
            "page": image_of([folder(1, 0), file(1)], [page], free=[0]),
            "sort": image_of([folder(1, 0, 1), file(1)], [page, data]),
            "two": image_of([folder(1, 0), file(1, 1, 1)], [page, data]),
            "links": image_of([folder(1, 0), file(0)], [page]),
            "names": image_of([folder(1, 0), file(2)], [folder_page("a1", "a1")]),
            "ring": image_of([folder(2, 0), None], [folder_page("a0")]),
        }
        for word, image in broken.items():
            self.assertEqual([row[0] for row in breaks(image)], [word])
            self.refused(image)

    def test_of_just_those_in_which_something_breaks(self):
        for image in many_images(any_image, 6, 1500):
            if breaks(image):
                self.refused(image)
            else:
                self.assertEqual(leaks(image), leaks_by_words(image))


class NothingIsKept(unittest.TestCase):
    def test_told_lists_are_the_askers_own(self):
        leaky = image_of([folder(2, 0), file(1), file(1)], [folder_page("a1"), file_page("old")])
        broken = image_of([folder(0, 0), None, None], [folder_page("a1", "b2")])
        for ask, image in ((come_to, leaky), (leaks, leaky), (breaks, broken), (breaks, SOUND), (leaks, SOUND)):
            told = ask(image)
            before = list(told)
            told.append(7)
            told.reverse()
            self.assertEqual(ask(image), before)
            ask(image).clear()
            self.assertEqual(ask(image), before)
            self.assertIsNot(ask(image), ask(image))

    def test_images_stay(self):
        for image in many_images(any_image, 7, 200) + many_images(sound_image, 8, 100):
            before = copy.deepcopy(image)
            come_to(image)
            if not breaks(image):
                leaks(image)
            self.assertEqual(image, before)


if __name__ == "__main__":
    unittest.main()
