"""What is there behind a stop: the tree of an image, and which changes are on it."""

from writeorders.changes import closed_of, put_on
from writeorders.errors import Broken
from writeorders.images import disk_pages, slots_of
from writeorders.looker import breaks
from writeorders.seen import tree_on


def tree_of(image):
    """The plain tree of an image that hangs together; or Broken."""
    if breaks(image):
        raise Broken()
    return tree_on(image)


def put_by(image, changes, later):
    """The least closed list of the changes that put on the image are the later one; None where none is."""
    if _sizes(image) != _sizes(later):
        return None
    numbers = []
    while True:
        put = {number: True for number in numbers}
        unlike = _unlike(put_on(image, [change for change in changes if change[0] in put]), later)
        if not unlike:
            return numbers
        # A closed list has at each slot the elder ones first: what lacks at a slot is behind what it has there.
        left = [change for change in changes if change[0] not in put]
        lacking = [_first_that_puts(left, page, slot, worth) for page, slot, worth in unlike]
        if any([number is None for number in lacking]):
            return None
        numbers = closed_of(changes, numbers + lacking)


def written_of(system):
    """The numbers of the changes of a system that are written."""
    return sorted([change[0] for change in system.changes() if system.is_written(change[0])])


def _sizes(image):
    return [len(part) for part in image]


def _unlike(image, later):
    """The slots that are not alike, as tuples of their page, slot and worth in the later image."""
    found = []
    for page in range(disk_pages(image)):
        slots = slots_of(image, page)
        found.extend([(page, slot, worth) for slot, worth in enumerate(slots_of(later, page)) if worth != slots[slot]])
    return found


def _first_that_puts(changes, page, slot, worth):
    for number, place, puts, _ in changes:
        if place == page and (slot, worth) in puts:
            return number
    return None
