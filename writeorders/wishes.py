"""Wishes that something be on the disk."""

from writeorders.changes import closed_of
from writeorders.images import page_of_data, page_of_node, place_of_bit, slots_of


def wish(system, path=None):
    """Write what a path needs to be on the disk as it is in memory, or all; the pages written. Or NoPath, Wrong."""
    left = system.unwritten()
    pages = {change[0]: change[1] for change in left}
    wanted = list(pages)
    if path is not None:
        wanted = closed_of(left, _numbers_at(left, _places(system, path)))
    written = []
    for number in wanted:
        if not system.is_written(number):
            system.write(pages[number])
            written.append(pages[number])
    return written


def _places(system, path):
    """The places of a path: of its node, of that one's data pages and their bits, and of its names."""
    image = system.memory()
    node = system.node_of(path)
    told = [page_of_node(image, node)] + system.name_places(path)
    for page in image[1][node][2]:
        at, _ = page_of_data(image, page)
        told.append(place_of_bit(image, page))
        told.extend([(at, slot) for slot in range(len(slots_of(image, at)))])
    return told


def _numbers_at(changes, places):
    return [number for number, page, puts, _ in changes if any([(page, slot) in places for slot, _ in puts])]
