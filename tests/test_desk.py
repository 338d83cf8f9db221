"""The desk: point [21], with [2] and [8] to [17]."""

import random
import unittest

from tests.systems import REFUSALS, any_deed, any_page
from tests.things import SIXTY_FIGURES, Prickly, things_of_any_kind
from writeorders.desk import Desk
from writeorders.errors import (
    Full, NoDeed, NoPage, NoPart, NoPath, NoRow, NoSize, NoSystem, NoTime, NotEmpty, There, Within, Wrong,
)
from writeorders.images import first_image
from writeorders.looker import leaks
from writeorders.mender import Mender
from writeorders.system import System
from writeorders.wishes import wish

ALL_ROWS = [
    "make a", "folder d", "link a b", "drop a", "move a b", "put a 0 text", "cut a 0", "write 0", "wish a", "clean",
    "names /", "read a", "least", "stop", "leaks", "mend",
]
# Each is none of the rows by its form, but for the system that is kept.
NO_ROWS = [
    "", " ", "new", "new 2", "new 2 1 1", "new 02 1", "new 2 01", "new +2 1", "new -2 1", "new 2 1 ", " new 2 1",
    "new  2 1", "new 2  1", "new two one", "new 2.0 1", "new 2,1", "new \u0662 1", "new \u00b2 1", "New 2 1", "NEW 2 1",
    "new\t2 1", "new 2 1\n", "\nnew 2 1", "make", "make ", "make a b", "make  a", " make a", "make a ", "make A",
    "make /a", "make a/", "make a//b", "make //", "make a/B", "make a1", "make a.b", "make abcdefghi",
    "make a/abcdefghi",
    "make \u00e9", "make ()", "make a\n", "make a\tb", "Make a", "makes a", "mak a", "folder", "folder a b",
    "folder a/",
    "folder ", "link a", "link a b c", "link a  b", "link a /b", "link a b/", "link", "link a ", "drop", "drop a b",
    "drop a/", "drop 1", "move a", "move a b c", "move a b ", "move a, b", "put", "put a", "put a 0", "put a x",
    "put  a 0 x", "put a  0 x", "put a 00 x", "put a 01 x", "put a +0 x", "put a -1 x", "put a \u0660 x", "put a/ 0 x",
    "put A 0 x", "put a 0\tx", "put a 0 x\n", "put a 0 \n", "put a 0 a\nb", " put a 0 x", "put a 0x y", "cut a", "cut",
    "cut a 00", "cut a -1", "cut a x", "cut a 0 0", "cut a 0 ", "write", "write ", "write -1", "write 00", "write 0 0",
    "write +0", "write x", "write 0 ", "write \u0661", "write 1_0", "write 1.0", "wish", "wish ", "wish a b", "wish a/",
    "clean ", " clean", "clean 0", "cleans", "Clean", "clean\n", "names", "names ", "names / a", "names //", "names /d",
    "names d/", "read", "read a b", "read a ", "least 0", "least ", "leas", "stop ", "stop 1", "stops", "leaks ",
    "leaks a",
    "leak", "mend 1", "mend ", "mends", "do make a", "tree", "play", "twin", "-", "/", "a", "0", "sort a", "paths",
    "disk",
]


def listed(parts):
    return " ".join(str(part) for part in parts) or "-"


def way(path):
    return "/".join(path) or "/"


def row_of(deed):
    return " ".join([deed[0]] + [way(part) if isinstance(part, tuple) else str(part) for part in deed[1:]])


class DeskTest(unittest.TestCase):
    def begun(self, *rows, size="8 8"):
        desk = Desk()
        self.assertEqual(desk.say("new " + size), "ok")
        for row in rows:
            desk.say(row)
        return desk

    def says(self, desk, *pairs):
        for row, wanted in pairs:
            told = desk.say(row)
            self.assertEqual((row, told), (row, wanted))
            self.assertIs(told.__class__, str)

    def refused(self, desk, row, error, *fields):
        with self.assertRaises(error) as held:
            desk.say(row)
        self.assertIs(held.exception.__class__, error, row)
        self.assertEqual(list(vars(held.exception).values()), list(fields))


class Rows(DeskTest):
    def test_a_whole_row_of_rows(self):
        self.says(
            Desk(), ("new 8 8", "ok"), ("least", "-"), ("clean", "-"), ("names /", "-"), ("leaks", "0"), ("mend", "0"),
            ("mend", "0"), ("make a", "0 1 2 3 4"), ("least", "0"), ("names /", "a"), ("read a", "-"),
            ("put a 0 one two", "5 6 7"), ("put a 1 three", "8 9 10"), ("read a", "one two; three"), ("folder d",
            "11 12"),
            ("link a d/b", "13 14 15 16 17"), ("names /", "a d"), ("names d", "b"), ("write 0", "0 5 8 13"),
            ("write 0", "-"), ("least", "3"), ("wish d/b", "3 1 4 1 5 1 3 6 1 6"), ("clean", "-"), ("cut a 2", "-"),
            ("cut d/b 1", "18"), ("read a", "one two"), ("write 1", "18"), ("clean", "0"), ("drop a", "20"),
            ("move d/b c", "21 22 23"), ("leaks", "0"), ("write 3", "20"), ("leaks", "1"), ("stop", "ok"), ("names /",
            "d"),
            ("names d", "b"), ("leaks", "1"), ("mend", "1"), ("clean", "1"), ("leaks", "0"), ("read d/b", "one two"),
        )

    def test_answers_to_pages_of_all_sorts(self):
        desk = self.begun("make a")
        for k, text in enumerate(("", "; ", " x ")):
            desk.say(f"put a {k} {text}")
        self.says(desk, ("read a", "; ; ;  x "), ("cut a 1", "14"), ("read a", ""), ("cut a 0", "15"), ("read a", "-"))

    def test_texts(self):
        desk = self.begun("make a")
        for text in ("", " ", "  ", "x", " x", "x ", "a  b", "-", "/", "~!@#", "x" * 40, " " * 40, "0 x", "put a 0 x"):
            desk.say("put a 0 " + text)
            self.assertEqual(desk.say("read a"), text)
        for text in ("x" * 41, " " * 41, "x" * 8900, "\t", "a\tb", "\u00e9", "\r", "x\x0b"):
            self.refused(desk, "put a 0 " + text, NoDeed)
            self.assertEqual(desk.say("read a"), "put a 0 x")

    def test_paths(self):
        desk = self.begun("folder a")
        for many in range(2, 7):
            desk.say("folder " + "/".join("a" * many))
        self.says(desk, ("names a/a/a/a/a/a", "-"), ("names a/a/a/a/a", "a"), ("wish /", desk.say("wish /") and "-"))
        self.refused(desk, "folder a/a/a/a/a/a/a", NoDeed)
        self.refused(desk, "names a/a/a/a/a/a/a", NoPath, ("a",) * 7)
        desk.say("make abcdefgh")
        self.assertEqual(desk.say("names /"), "a abcdefgh")

    def test_names_are_sorted(self):
        self.says(self.begun("make b", "make c", "folder a"), ("names /", "a b c"))

    def test_wishes(self):
        desk = self.begun("make a")
        self.says(desk, ("wish a", "0 3 1 3"), ("wish a", "-"), ("wish /", "-"), ("folder b", "5 6"), ("wish /", "1 3"))

    def test_new_in_the_stead_of_the_old(self):
        desk = self.begun("make a")
        self.says(desk, ("new 2 1", "ok"), ("names /", "-"), ("least", "-"), ("make b", "0 1 2 3 4"))
        self.refused(desk, "make c", Full, "nodes")

    def test_stop(self):
        desk = self.begun("make a", "clean", "make b", "write 1")
        self.says(desk, ("names /", "a b"), ("stop", "ok"), ("names /", "a"), ("leaks", "1"), ("least", "-"),
                  ("make c", "0 1"), ("stop", "ok"), ("names /", "a"))

    def test_leaks_and_mend(self):
        desk = self.begun("make a", "put a 0 x", "put a 1 y", "write 0", "write 4", "write 5", "write 3")
        self.says(desk, ("leaks", "3"), ("write 1", "2 3 7 10"), ("leaks", "3"))
        self.refused(desk, "mend", NoTime)
        self.says(desk, ("stop", "ok"), ("leaks", "3"), ("mend", "3"), ("leaks", "3"))
        self.refused(desk, "mend", NoTime)
        self.says(desk, ("clean", "1 0"), ("leaks", "0"))
        self.refused(desk, "mend", NoTime)
        self.says(desk, ("stop", "ok"), ("mend", "0"), ("mend", "0"))

    def test_no_time(self):
        for row in ("make b", "cut a 0", "write 0", "write 1", "put a 0 x"):
            desk = self.begun("make a", "clean", "stop")
            self.says(desk, ("least", "-"), ("names /", "a"), ("clean", "-"), ("wish a", "-"), ("mend", "0"))
            desk.say(row)
            self.refused(desk, "mend", NoTime)

    def test_two_desks_beside_one_another(self):
        one, other = self.begun("make a"), Desk()
        self.refused(other, "names /", NoSystem)
        other.say("new 3 2")
        other.say("folder b")
        self.says(one, ("names /", "a"), ("clean", "0 3 1 3"))
        self.says(other, ("names /", "b"), ("least", "0"), ("stop", "ok"), ("names /", "-"))
        self.says(one, ("names /", "a"))

    def test_row_goes_by_its_name_too(self):
        desk = Desk()
        self.assertEqual(desk.say(row="new 2 1"), "ok")


class Refused(DeskTest):
    def test_no_rows(self):
        for thing in NO_ROWS + things_of_any_kind() + [b"clean", ("clean",), ["clean"], Prickly(), "\n" * 9000]:
            self.refused(Desk(), thing, NoRow)
            desk = self.begun("make a")
            self.refused(desk, thing, NoRow)
            self.says(desk, ("names /", "a"), ("least", "0"), ("clean", "0 3 1 3"))

    def test_no_system(self):
        for row in ALL_ROWS + ["write 99", "put a 9 " + "x" * 99, "make a/b/c/d/e/f/g", "drop /", "cut a 9"]:
            desk = Desk()
            self.refused(desk, row, NoSystem)
            self.refused(desk, "new 1 1", NoSize, 1)
            self.refused(desk, row, NoSystem)

    def test_sizes(self):
        desk = self.begun("make a")
        for row, number in (("new 1 1", 1), ("new 2 0", 0), ("new 17 1", 17), ("new 2 17", 17), ("new 0 0", 0),
                            ("new 17 18", 17), (f"new 2 {SIXTY_FIGURES}", SIXTY_FIGURES)):
            self.refused(desk, row, NoSize, number)
            self.says(desk, ("names /", "a"))

    def test_numbers_of_very_many_figures(self):
        desk = self.begun("make a")
        for row, error in (("new 2 ", NoSize), ("write ", NoPage), ("cut a ", NoDeed)):
            with self.assertRaises(error):
                desk.say(row + "9" * 8000)
        self.refused(desk, "put a " + "9" * 8000 + " x", NoDeed)

    def test_what_the_points_refuse(self):
        desk = self.begun("folder d", "make d/x", "make y", "put y 0 one", "folder d/e", size="6 5")
        for row, error, *fields in (
            ("make /", NoDeed), ("drop /", NoDeed), ("move / a", NoDeed), ("link y /", NoDeed), ("put / 0 x", NoDeed),
            ("put y 3 x", NoDeed), ("put y 9 x", NoDeed), ("cut y 4", NoDeed), (f"cut y {SIXTY_FIGURES}", NoDeed),
            ("make a/b/c/d/e/f/g", NoDeed), ("move y a/b/c/d/e/f/g", NoDeed), ("put y 0 " + "x" * 41, NoDeed),
            ("make y", There, ("y",)), ("folder d/x", There, ("d", "x")), ("make a/b", NoPath, ("a", "b")),
            ("make y/b", Wrong, ("y", "b")), ("link d z", Wrong, ("d",)), ("link y d/x", There, ("d", "x")),
            ("drop z", NoPath, ("z",)), ("drop d", NotEmpty, ("d",)), ("move d d/e/f", Within, ("d", "e", "f")),
            ("put y 2 x", NoPart, 2), ("cut y 2", NoPart, 2), ("put d 0 x", Wrong, ("d",)), ("write 8", NoPage, 8),
            (f"write {SIXTY_FIGURES}", NoPage, SIXTY_FIGURES), ("wish z", NoPath, ("z",)), ("wish y/z", Wrong, ("y",
            "z")),
            ("names y", Wrong, ("y",)), ("names z", NoPath, ("z",)), ("read d", Wrong, ("d",)), ("read /", Wrong, ()),
            ("read d/z", NoPath, ("d", "z")), ("mend", NoTime),
        ):
            self.refused(desk, row, error, *fields)
        self.says(desk, ("make d/z", "17 18"))
        self.refused(desk, "make z", Full, "nodes")
        desk.say("put d/z 0 x")
        desk.say("put d/z 1 x")
        self.refused(desk, "put d/z 2 x", Full, "pages")

    def test_links(self):
        desk = self.begun("make a")
        for _ in range(49):
            desk.say("move a b")
            desk.say("move b a")
        self.refused(desk, "move a b", Full, "links")
        self.refused(desk, "link a b", Full, "links")
        desk.say("clean")
        self.assertNotEqual(desk.say("move a b"), "-")


class AsASystemDoes(DeskTest):
    def told(self, desk, row, ask):
        """The desk answers as the asking does, or refuses likewise."""
        try:
            wanted = ask()
        except (*REFUSALS, NoPage, NoTime) as held:
            self.refused(desk, row, held.__class__, *vars(held).values())
        else:
            self.says(desk, (row, wanted if isinstance(wanted, str) else listed(wanted)))

    def mended(self, system):
        mender = Mender(system)
        many = len(mender)
        while len(mender):
            mender.mend(mender.leaks()[-1])
        # Which leak is mended first isn't told: all is clean ahead of the next row.
        system.clean()
        return str(many)

    def test_by_chance(self):
        chance = random.Random(151)
        for _ in range(80):
            nodes, pages = chance.randint(2, 10), chance.randint(1, 8)
            desk, system = self.begun(size=f"{nodes} {pages}"), System(first_image(nodes, pages))
            for _ in range(40):
                path = chance.choice([(), ("a",)] + system.paths())
                deed, page = any_deed(chance, system), any_page(chance, system)
                rows = [(row_of(deed), lambda: system.do(deed))] * 5 + [
                    (f"write {page}", lambda: system.write(page)), (f"write {page}", lambda: system.write(page)),
                    ("wish " + way(path), lambda: wish(system, path)), ("clean", lambda: system.clean()),
                    ("names " + way(path), lambda: system.names(path)), ("leaks",
                    lambda: str(len(leaks(system.disk())))),
                    ("least", lambda: listed([] if system.least() is None else [system.least()])),
                    ("read " + way(path), lambda: "; ".join(system.read(path)) if system.read(path) else "-"),
                ]
                self.told(desk, *chance.choice(rows))
                if chance.random() < 0.1:
                    self.says(desk, ("stop", "ok"))
                    system = System(system.disk())
                    if chance.random() < 0.5:
                        self.told(desk, "mend", lambda: self.mended(system))
                        desk.say("clean")
                        # The numbers of the changes may be others now.
                        self.says(desk, ("stop", "ok"))
                        system = System(system.disk())


if __name__ == "__main__":
    unittest.main()
