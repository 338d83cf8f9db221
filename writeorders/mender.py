"""The mender: it frees what leaked, and nothing else, beside running deeds."""

from writeorders.errors import NoLeak, NoTime
from writeorders.images import is_whole, place_of_bit
from writeorders.looker import leaks


class Mender:
    """The leaks of the image with which a system began."""

    def __init__(self, system):
        if not system.begun():
            raise NoTime()
        image = system.memory()
        self._system = system
        self._left = leaks(image)
        self._mended = []
        self._pages = {leak[1]: image[1][leak[1]][2] for leak in self._left if leak[0] == "node"}

    def mend(self, leak):
        """Mend a leak; the numbers of the changes made for it at once. Or NoLeak."""
        if not _is_leak(leak) or leak not in self._left:
            raise NoLeak()
        if leak[0] == "node":
            return [self._mend_node(leak)]
        if leak[0] == "links":
            self._is_mended(leak)
            return [self._system.lower(leak[1], leak[2])]
        if leak[1] in self._pages_held():
            raise NoLeak()
        self._is_mended(leak)
        page, slot = place_of_bit(self._system.memory(), leak[1])
        return [self._system.add_change(page, ((slot, False),), ())]

    def leaks(self):
        """The leaks left, sorted."""
        return list(self._left)

    def mended(self):
        """What was mended, in that order."""
        return list(self._mended)

    def __len__(self):
        return len(self._left)

    def _mend_node(self, leak):
        self._is_mended(leak)
        node = leak[1]
        held = self._pages_held()
        bits = [("bit", page) for page in sorted(set(self._pages[node])) if page not in held]
        bits = [bit for bit in bits if bit in self._left]
        for bit in bits:
            self._is_mended(bit)
        return self._system.let_go(node, tuple([page for _, page in bits]))

    def _is_mended(self, leak):
        self._left.remove(leak)
        self._mended.append(leak)

    def _pages_held(self):
        """The pages that the leaking nodes left point to."""
        return [page for leak in self._left if leak[0] == "node" for page in self._pages[leak[1]]]


def _is_leak(thing):
    """Whether it is one by form: True and False, which are like numbers, are none."""
    return (
        isinstance(thing, tuple)
        and len(thing) > 1
        and isinstance(thing[0], str)
        and all([is_whole(part) for part in thing[1:]])
    )
