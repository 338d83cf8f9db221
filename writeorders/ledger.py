"""The book of a system: both its images, the changes between them, and what waits for these."""

from writeorders.changes import goes_along, put_on
from writeorders.errors import NoPage
from writeorders.images import disk_pages, is_within, page_of_node, place_of_bit


class Ledger:
    """All changes made, by number, and which of them are left to be written."""

    def __init__(self, image, without):
        self.on_disk = image
        self.in_memory = image
        self.without = without
        self.made = []
        self.left = {}
        self.waiting = {}
        self.struck = {}
        self.page_given = {}
        self.many_deeds = 0
        self.many_writings = 0

    def change(self, page, puts, leans):
        """Make a change; its number."""
        number = len(self.made)
        made = (number, page, puts, leans)
        self.made.append(made)
        self.left[number] = made
        self.in_memory = put_on(self.in_memory, [made])
        return number

    def change_node(self, node, worth, leans=()):
        """Make the change by which the node is this; its number."""
        page, slot = page_of_node(self.in_memory, node)
        return self.change(page, ((slot, worth),), leans)

    def change_bit(self, page, taken):
        """Make the change by which a data page is taken, or free; its number."""
        at, slot = place_of_bit(self.in_memory, page)
        return self.change(at, ((slot, taken),), ())

    def lower_node(self, node, many):
        """Take so many links off the node, which goes where none is left; the number of the change."""
        kind, links, pages = self.in_memory[1][node]
        if links <= many:
            return self.let_node_go(node, pages)
        return self.change_node(node, (kind, links - many, pages))

    def let_node_go(self, node, pages):
        """Make the node free, and these data pages behind that; the number of the change."""
        number = self.change_node(node, None)
        self.free_behind(number, pages)
        return number

    def free_behind(self, number, pages):
        """Make the data pages free as soon as this change is written."""
        if "freed" in self.without:
            self._free(pages)
        elif pages:
            self.waiting[number] = ("free", tuple(sorted(pages)))

    def lower_behind(self, number, node):
        """Take a link off the node as soon as this change is written."""
        if "lowered" in self.without:
            self.lower_node(node, 1)
        else:
            self.waiting[number] = ("lower", node)

    def write(self, page):
        """Write a page of the disk; the numbers of the changes that go along. Or NoPage."""
        if not is_within(page, 0, disk_pages(self.on_disk) - 1):
            raise NoPage(page)
        numbers = goes_along(list(self.left.values()), page)
        self.on_disk = put_on(self.on_disk, [self.left[number] for number in numbers])
        self.many_writings += 1
        for number in numbers:
            del self.left[number]
            self.struck.pop(number, None)
        for number in numbers:
            self._do_what_waits(number)
        return numbers

    def least_page(self):
        """The page of the least change that is left; None where none is."""
        if not self.left:
            return None
        return self.left[min(list(self.left))][1]

    def left_at(self, places):
        """The numbers of the last change at each of these places, where that is left."""
        last = {(page, slot): number for number, page, puts, _ in self.left.values() for slot, _ in puts}
        return [last[place] for place in places if place in last]

    def likeness(self):
        """What is alike in alike ledgers alone; the disk and what is left tell what is in memory."""
        return self.on_disk, tuple(self.left.values()), tuple(self.waiting.items()), self.without

    def copy(self):
        """A ledger that goes on by itself."""
        told = Ledger(self.on_disk, self.without)
        told.in_memory = self.in_memory
        told.made = list(self.made)
        told.left = dict(self.left)
        told.waiting = dict(self.waiting)
        told.struck = dict(self.struck)
        told.page_given = dict(self.page_given)
        told.many_deeds = self.many_deeds
        told.many_writings = self.many_writings
        return told

    def _do_what_waits(self, number):
        word, worth = self.waiting.pop(number, ("nothing", None))
        if word == "lower":
            self.lower_node(worth, 1)
        elif word == "free":
            self._free(worth)

    def _free(self, pages):
        for page in sorted(pages):
            self.change_bit(page, False)
