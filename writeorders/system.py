"""The system: files and folders in memory, and a disk that is written page by page."""

from writeorders.doing import done, lacking
from writeorders.errors import Broken, Full, NoChange, NoImage, NoStep
from writeorders.images import LEAST_NODES, LEAST_PAGES, first_image, is_image, is_within
from writeorders.ledger import Ledger
from writeorders.looker import breaks
from writeorders.rules import rules_of
from writeorders.seen import node_at, places_of_path, tree_on


class System:
    """An image in memory, one on the disk, and the changes between them."""

    def __init__(self, image, *, without=()):
        if not is_image(image):
            raise NoImage()
        if breaks(image):
            raise Broken()
        self._ledger = Ledger(image, rules_of(without))
        self._words = []

    def do(self, deed):
        """Do a deed; the numbers of its changes. Refused as a tree refuses it, or with Full."""
        self.tree().do(deed)
        word = lacking(self._ledger.in_memory, deed)
        if word is not None:
            raise Full(word)
        return done(self._ledger, deed)

    def sort_at(self, path):
        """What is at the path, `file` or `folder`; or NoPath, Wrong."""
        return self.tree().sort_at(path)

    def names(self, path):
        """The names of a folder, sorted; or NoPath, Wrong."""
        return self.tree().names(path)

    def read(self, path):
        """The texts of a file's pages; or NoPath, Wrong."""
        return self.tree().read(path)

    def many_names(self, path):
        """How many names lead to a file; or NoPath, Wrong."""
        return self.tree().many_names(path)

    def paths(self):
        """All paths but (), sorted."""
        return self.tree().paths()

    def tree(self):
        """The plain tree of what is in memory."""
        return tree_on(self._ledger.in_memory)

    def changes(self):
        """All changes made, by number."""
        return list(self._ledger.made)

    def begun(self):
        """Whether neither a deed nor a writing was done, and there is no change."""
        ledger = self._ledger
        return ledger.many_deeds == 0 and ledger.many_writings == 0 and not ledger.made

    def node_of(self, path):
        """The node of a path; or NoPath, Wrong."""
        self.tree().sort_at(path)
        return node_at(self._ledger.in_memory, path)

    def name_places(self, path):
        """Tuples (page, slot): where on the disk each name of the path stands; or NoPath, Wrong."""
        self.tree().sort_at(path)
        return places_of_path(self._ledger.in_memory, path)

    def add_change(self, page, puts, leans):
        """Make a change; its number."""
        return self._ledger.change(page, puts, leans)

    def lower(self, node, many):
        """Take so many links off a node, which is let go where none is left; the number of the change."""
        return self._ledger.lower_node(node, many)

    def let_go(self, node, pages):
        """Make a node free, and these data pages as soon as that is written; the number of the change."""
        return self._ledger.let_node_go(node, pages)

    def write(self, page):
        """Write a page of the disk; the numbers of the changes that go along. Or NoPage."""
        return self._ledger.write(page)

    def unwritten(self):
        """All unwritten changes, by number."""
        return list(self._ledger.left.values())

    def clean(self):
        """Write the page of the least unwritten change till none is left; the pages written."""
        pages = []
        while self._ledger.left:
            page = self._ledger.least_page()
            self._ledger.write(page)
            pages.append(page)
        return pages

    def least(self):
        """The page of the least unwritten change; None where all is clean."""
        return self._ledger.least_page()

    def is_written(self, number):
        """Whether a change that was made is written; or NoChange."""
        made = self._ledger.made
        if not is_within(number, 0, len(made) - 1):
            raise NoChange(number)
        return made[number][0] not in self._ledger.left

    def disk(self):
        """The image on the disk."""
        return self._ledger.on_disk

    def memory(self):
        """The image in memory."""
        return self._ledger.in_memory

    def writings(self):
        """How many writings were done."""
        return self._ledger.many_writings

    def play(self, steps):
        """Do a list of steps, all or none; the list of what each told. Refused as the first that is, or with NoStep."""
        self._words.append("begin")
        try:
            return self._played(steps)
        finally:
            self._words.append("end")

    def log(self):
        """`begin` and `end` of each playing."""
        return list(self._words)

    def twin(self):
        """A system that is alike and goes on by itself; its log is empty."""
        # Without some rule the disk may break, and then no system could be made of its image.
        told = System(first_image(LEAST_NODES, LEAST_PAGES))
        told._ledger = self._ledger.copy()
        return told

    def likeness(self):
        """A tuple that is alike of alike systems, and of these alone."""
        return self._ledger.likeness()

    def __eq__(self, other):
        return isinstance(other, System) and self.likeness() == other.likeness()

    def _played(self, steps):
        if not isinstance(steps, list):
            raise NoStep(None)
        trial = self.twin()
        told = [trial._stepped(number, step) for number, step in enumerate(steps)]
        self._ledger = trial._ledger
        return told

    def _stepped(self, number, step):
        if _is_step(step, "do", 2):
            return self.do(step[1])
        if _is_step(step, "write", 2):
            return self.write(step[1])
        if _is_step(step, "clean", 1):
            return self.clean()
        raise NoStep(number)


def _is_step(thing, word, many):
    return isinstance(thing, tuple) and len(thing) == many and isinstance(thing[0], str) and thing[0] == word
