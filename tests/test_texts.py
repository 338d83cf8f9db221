"""Images written as rows, and read back: point [20], with [2] and [4]."""

import copy
import random
import unittest

from tests.small_images import (
    EMPTY, any_image, file, file_page, folder, folder_page, image_of, many_images, sound_image,
)
from tests.things import SIXTY_FIGURES, Prickly, things_of_any_kind
from writeorders.errors import NoText
from writeorders.images import first_image, is_image
from writeorders.texts import read, shown

IMAGE = image_of(
    [folder(1, 0), file(2, 1, 2), None, folder(99)],
    [folder_page("a1", None, "longname1"), file_page("some text"), file_page(""), EMPTY],
    free=(2,),
)
ROWS = [
    "taken 1 1 0 0", "folder 1 0", "file 2 1 2", "free", "folder 99",
    "folder a=1 - longname=1 -", "file some text", "file ", "empty",
]
TEXT = "\n".join(ROWS)


def greatest():
    """The image with the longest text."""
    data = [("folder", *[("abcdefg" + "hijk"[slot], 15) for slot in range(4)]) for _ in range(8)]
    data += [file_page("~" * 40)] * 8
    return (True,) * 16, (("folder", 99, (15, 14, 13)),) * 16, tuple(data)


class TextsTest(unittest.TestCase):
    def none(self, text, row):
        for ask in (lambda: read(text), lambda: read(text=text)):
            with self.assertRaises(NoText) as held:
                ask()
            self.assertIs(held.exception.__class__, NoText)
            self.assertEqual(held.exception.row, row, text)
            self.assertIs(held.exception.row is None, row is None)

    def with_row(self, number, row):
        rows = list(ROWS)
        rows[number] = row
        return "\n".join(rows)


class Written(TextsTest):
    def test_by_hand(self):
        self.assertEqual(shown(IMAGE), TEXT)
        self.assertEqual(shown(image=IMAGE), TEXT)
        self.assertEqual(shown(first_image(2, 1)), "taken 0\nfolder 1\nfree\nempty")
        self.assertEqual(read(TEXT), IMAGE)
        self.assertEqual(read(text="taken 0\nfolder 1\nfree\nempty"), first_image(2, 1))

    def test_read_back(self):
        images = [IMAGE, greatest()] + [first_image(nodes, pages) for nodes in range(2, 17) for pages in range(1, 17)]
        for image in images + many_images(any_image, 141, 300) + many_images(sound_image, 142, 150):
            before = copy.deepcopy(image)
            text = shown(image)
            self.assertIs(text.__class__, str)
            self.assertEqual(text.count("\n"), len(image[1]) + 2 * len(image[0]) - len(image[0]))
            told = read(text)
            self.assertEqual(told, image)
            self.assertIs(is_image(told), True)
            self.assertEqual(repr(told), repr(image))
            self.assertEqual(image, before)

    def test_texts_with_blanks(self):
        for text in ("", " ", "  ", " a", "a ", " a  b ", "-", "empty", "file ", "x" * 40, " " * 40, "a=1 - - -",
        "~!\"#"):
            image = image_of([folder(1), None], [file_page(text), EMPTY])
            self.assertEqual(shown(image).split("\n")[3], "file " + text)
            self.assertEqual(read(shown(image)), image)

    def test_names(self):
        for name in ("a", "z", "az", "za", "abcdefgh", "stuvwxyz", "free", "empty", "file"):
            image = image_of([folder(1, 0), file(1)], [("folder", None, (name, 1), None, None)])
            self.assertEqual(shown(image).split("\n")[3], f"folder - {name}=1 - -")
            self.assertEqual(read(shown(image)), image)

    def test_each_image_has_another_text(self):
        images = set(many_images(any_image, 143, 300))
        self.assertEqual(len({shown(image) for image in images}), len(images))


class Rows(TextsTest):
    def test_the_map(self):
        for row in (
            "", "taken", "taken ", " taken 1 1 0 0", "taken 1 1 0 0 ", "taken  1 1 0 0", "taken 1 1  0 0", "taken 1100",
            "taken 1 1 0 2", "taken 1 1 0 00", "taken 1 1 0 -", "Taken 1 1 0 0", "take 1 1 0 0", "taken 1 1 0 True",
            "1 1 0 0", "taken\t1 1 0 0", "taken" + " 1" * 17, "taken 1 1 0 \u0661", "taken 1 1 0 \u00b9", "free",
            "empty",
        ):
            self.none(self.with_row(0, row), 0)
            self.none(row, 0)

    def test_nodes(self):
        for row in (
            "", "file", "folder", "file ", "file  1", " file 1", "file 1 ", "file 1  2", "free ", " free", "Free",
            "frees",
            "file one", "file 01", "file 00", "file -1", "file +1", "file 1.0", "file 1 a", "file 1 01", "file 1 -",
            "file 1,2", "file 1\t2", "files 1", "File 1", "node 1", "1 file", "empty", "taken 1", "folder - - - -",
            "folder a=1 - - -", "file \u0661", "file \u00b2", "file 1 \u0967", "file 1_0", "free 1", "file 0x1", "-",
        ):
            for number in (1, 2, 4):
                self.none(self.with_row(number, row), number)

    def test_data_pages(self):
        for row in (
            "", "file", "folder", "folder ", "folder - - -", "folder - - - - -", "folder - - - - ", "folder  - - - -",
            " folder - - - -", "folder -  - - -", "empty ", " empty", "Empty", "free", "File x", " file x", "folder 1",
            "folder a - - -", "folder a= - - -", "folder =1 - - -", "folder a=01 - - -", "folder a=-1 - - -",
            "folder a=b - - -", "folder A=1 - - -", "folder a1=1 - - -", "folder a=1=1 - - -", "folder a==1 - - -",
            "folder - - - a:1", "folder - - - --", "folder - - - a=\u0661", "folder - - - \u00e9=1", "folder a=1 b=2",
            "folder a= 1 - -", "folder a =1 - -", "folder - - - a=1\t", "taken 1", "folders - - - -", "file\tx", "-",
        ):
            for number in (5, 7, 8):
                self.none(self.with_row(number, row), number)

    def test_the_first_of_several(self):
        for first in range(len(ROWS)):
            rows = ROWS[:first] + ["?"] * (len(ROWS) - first)
            self.none("\n".join(rows), first)

    def test_rows_left_out(self):
        taken, nodes, data = IMAGE
        for number in range(1, 5):
            told = read("\n".join(ROWS[:number] + ROWS[number + 1:]))
            self.assertEqual(told, (taken, nodes[:number - 1] + nodes[number:], data))
        # The last rows, as many as the map has figures, are the data pages', and so row 4 is one of them then.
        for number in range(5, 9):
            self.none("\n".join(ROWS[:number] + ROWS[number + 1:]), 4)
        self.none("\n".join(ROWS[1:]), 0)

    def test_rows_doubled(self):
        taken, nodes, data = IMAGE
        for number in range(1, 5):
            told = read("\n".join(ROWS[:number + 1] + ROWS[number:]))
            self.assertEqual(told, (taken, nodes[:number] + nodes[number - 1:], data))
        for number in range(5, 9):
            self.none("\n".join(ROWS[:number + 1] + ROWS[number:]), 5)
        self.none("\n".join([ROWS[0]] + ROWS), 1)
        self.none(TEXT + "\n", 5)
        self.none("\n" + TEXT, 0)

    def test_rows_lack(self):
        rows = ["taken 0 0 0", "folder 1", "free", "empty", "empty", "empty"]
        for many in range(1, 6):
            self.none("\n".join(rows[:many]), many)
        read("\n".join(rows))
        self.none("taken 0 0 0\nfree\nempty", 2)
        self.none("taken 0 0 0\nfolder 1\nfree\nfree", 3)
        self.none("taken 0 0 0\nfolder 1\nfree\nempty\n", 4)
        self.none("taken 0" + " 0" * 15 + "\nfolder 1\nfree" + "\nempty" * 15, 18)

    def test_more_nodes_than_sixteen(self):
        nodes = ["folder 1"] + ["free"] * 15
        rows = ["taken 0 1", *nodes, "empty", "file x"]
        self.assertEqual(len(read("\n".join(rows))[1]), 16)
        self.none("\n".join(rows + ["empty"]), 19)
        self.none("\n".join(rows + ["?", "?"]), 19)
        self.none("\n".join(rows + [""]), 19)
        # Seventeen nodes: the seventeenth is where the first data page should be.
        self.none("\n".join(["taken 0 1", *nodes, "free", "empty", "file x"]), 17)
        self.none("\n".join(["taken 0 1", *nodes, "file 1", "empty", "file x"]), 19)
        self.none("\n".join(["taken 0 1", *nodes[:15], "empty", "empty", "empty", "empty"]), 16)


class NoImages(TextsTest):
    def test_what_is_so_by_form_and_no_image(self):
        for number, row in (
            (1, "folder 100"), (1, "folder " + "9" * 60), (1, "file 1 4"), (1, "file 1 0 1 2 3"), (2, "file 1 0 0 0 0"),
            (2, f"file 1 {SIXTY_FIGURES}"), (3, "file " + " ".join(["1"] * 100)), (5, "folder a=4 - - -"),
            (5, "folder - - - abcdefghi=1"), (5, "folder - - - a=16"), (6, "file " + "x" * 41), (6, "file \t"),
            (6, "file \u00e9"), (6, "file " + "x" * 8000), (5, f"folder {'a' * 3000}=1 - - -"),
        ):
            self.none(self.with_row(number, row), None)

    def test_numbers_of_very_many_figures(self):
        for many in (61, 4300, 4301, 8000):
            self.none(self.with_row(1, "folder " + "9" * many), None)
            self.none(self.with_row(5, "folder a=" + "1" * many + " - - -"), None)
            self.none(self.with_row(2, "file 1 " + "1" * many), None)

    def test_a_row_of_no_form_goes_first(self):
        rows = [ROWS[0], "folder 100", "file 1 9", *ROWS[3:8], "?"]
        self.none("\n".join(rows), 8)
        self.none("\n".join(rows[:8] + ["empty"]), None)

    def test_no_texts(self):
        for thing in things_of_any_kind() + [(), IMAGE, list(ROWS), TEXT.encode(), Prickly()]:
            if not isinstance(thing, str):
                self.none(thing, 0)
        self.none("", 0)
        self.none("\n", 0)
        self.none("\n" * 8999, 0)

    def test_texts_by_chance(self):
        chance = random.Random(144)
        images = many_images(sound_image, 145, 40)
        seen = {"image": 0, "none": 0, "row": 0}
        for image in images * 40:
            text = shown(image)
            for _ in range(chance.randint(1, 3)):
                at = chance.randrange(len(text))
                text = text[:at] + chance.choice(("", "0", " ", "-", "=", "abc", "\n", "9", "99", "\nfree")) \
                    + text[at + chance.randint(0, 1):]
            try:
                told = read(text)
            except NoText as held:
                self.assertEqual(list(vars(held)), ["row"])
                seen["none" if held.row is None else "row"] += 1
                if held.row is not None:
                    self.assertLessEqual(held.row, text.count("\n") + 1)
            else:
                seen["image"] += 1
                self.assertIs(is_image(told), True)
                self.assertEqual(shown(told), text)
        self.assertGreater(min(seen.values()), 15)


if __name__ == "__main__":
    unittest.main()
