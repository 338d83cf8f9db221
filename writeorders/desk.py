"""A desk: a system that is spoken to in rows of words."""

from writeorders.errors import NoRow, NoSystem
from writeorders.figures import is_figures, number_of
from writeorders.images import first_image, is_name
from writeorders.looker import leaks
from writeorders.mender import Mender
from writeorders.system import System
from writeorders.wishes import wish

# What stands behind each word: a number N, a path P, or the text T of a page.
FORMS = {
    "new": "NN", "make": "P", "folder": "P", "link": "PP", "drop": "P", "move": "PP", "put": "PNT", "cut": "PN",
    "write": "N", "wish": "P", "clean": "", "names": "P", "read": "P", "least": "", "stop": "", "leaks": "",
    "mend": "",
}
DEEDS = ("make", "folder", "link", "drop", "move", "put", "cut")


class Desk:
    """One system, none at first."""

    def __init__(self):
        self._system = None

    def say(self, row):
        """The answer to a row of words; or NoRow, NoSystem, and what the system refuses."""
        word, told = _parts(row)
        if word == "new":
            self._system = System(first_image(told[0], told[1]))
            return "ok"
        if self._system is None:
            raise NoSystem()
        if word in DEEDS:
            return _listed(self._system.do((word,) + told))
        if told:
            return self._told_of(word, told[0])
        return self._told_alone(word)

    def _told_of(self, word, part):
        if word == "write":
            return _listed(self._system.write(part))
        if word == "wish":
            return _listed(wish(self._system, part))
        if word == "names":
            return _listed(self._system.names(part))
        pages = self._system.read(part)
        return "; ".join(pages) if pages else "-"

    def _told_alone(self, word):
        if word == "clean":
            return _listed(self._system.clean())
        if word == "least":
            page = self._system.least()
            return "-" if page is None else str(page)
        if word == "leaks":
            return str(len(leaks(self._system.disk())))
        if word == "mend":
            return str(self._mend_all())
        self._system = System(self._system.disk())
        return "ok"

    def _mend_all(self):
        mender = Mender(self._system)
        # A bit that a leaking node points to is mended with that one.
        others = [leak for leak in mender.leaks() if leak[0] != "bit"]
        for leak in others:
            mender.mend(leak)
        bits = mender.leaks()
        for leak in bits:
            mender.mend(leak)
        return len(mender.mended())


def _parts(row):
    """The row's word, and a tuple of the numbers, paths and text behind it; or NoRow."""
    if not isinstance(row, str) or "\n" in row:
        raise NoRow()
    words = row.split(" ")
    if words[0] == "put":
        words = row.split(" ", 3)
    form = FORMS.get(words[0])
    if form is None or len(words) != 1 + len(form):
        raise NoRow()
    return words[0], tuple([_part(sign, word) for sign, word in zip(form, words[1:])])


def _part(sign, word):
    if sign == "T":
        return word
    if sign == "N":
        if not is_figures(word):
            raise NoRow()
        return number_of(word)
    if word == "/":
        return ()
    names = word.split("/")
    if not all([is_name(name) for name in names]):
        raise NoRow()
    return tuple(names)


def _listed(parts):
    return " ".join([str(part) for part in parts]) if parts else "-"
