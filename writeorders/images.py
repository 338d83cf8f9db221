"""Images of a disk, and the pages that they are written in."""

from writeorders.errors import NoPage, NoSize

LEAST_NODES = 2
MOST_NODES = 16
LEAST_PAGES = 1
MOST_PAGES = 16
MOST_LINKS = 99
MOST_PAGES_OF_A_NODE = 3
SLOTS_OF_DATA = 5
NODES_OF_A_PAGE = 4
LONGEST_NAME = 8
LONGEST_TEXT = 40


def is_whole(thing):
    """Whether it is a whole number, of anything."""
    return isinstance(thing, int) and not isinstance(thing, bool)


def is_within(thing, least, most):
    """Whether it is a whole number from least to most, of anything."""
    return is_whole(thing) and least <= thing <= most


def is_text(thing):
    """Whether it is a text that a file page can have, of anything."""
    if not isinstance(thing, str) or len(thing) > LONGEST_TEXT:
        return False
    return all([" " <= sign <= "~" for sign in thing])


def is_name(thing):
    """Whether it is a name, of anything."""
    if not isinstance(thing, str) or not 1 <= len(thing) <= LONGEST_NAME:
        return False
    return all(["a" <= sign <= "z" for sign in thing])


def is_image(thing):
    """Whether it is an image, of anything."""
    if not _is_row(thing, 3, 3):
        return False
    taken, nodes, data = thing
    if not _is_row(taken, LEAST_PAGES, MOST_PAGES) or not _is_row(nodes, LEAST_NODES, MOST_NODES):
        return False
    if not _is_row(data, len(taken), len(taken)):
        return False
    return (
        all([bit is True or bit is False for bit in taken])
        and all([_is_node(node, len(taken)) for node in nodes])
        and all([_is_data(slots, len(nodes)) for slots in data])
    )


def first_image(nodes, pages):
    """The image of so many nodes and data pages with an empty first folder; or NoSize."""
    if not is_within(nodes, LEAST_NODES, MOST_NODES):
        raise NoSize(nodes)
    if not is_within(pages, LEAST_PAGES, MOST_PAGES):
        raise NoSize(pages)
    never_filled = (None,) * SLOTS_OF_DATA
    all_nodes = (("folder", 1, ()),) + (None,) * (nodes - 1)
    return (False,) * pages, all_nodes, (never_filled,) * pages


def disk_pages(image):
    """How many pages the disk has."""
    return _first_data_page(image) + len(image[2])


def slots_of(image, page):
    """The slots of a page of the disk; or NoPage."""
    _check_page(image, page)
    taken, nodes, data = image
    if page == 0:
        return taken
    if page < _first_data_page(image):
        return nodes[_first_node(page):_first_node(page + 1)]
    return data[page - _first_data_page(image)]


def with_slots(image, page, slots):
    """The image in which a page of the disk has these slots, as many as ahead; or NoPage."""
    _check_page(image, page)
    taken, nodes, data = image
    if page == 0:
        return slots, nodes, data
    if page < _first_data_page(image):
        return taken, nodes[:_first_node(page)] + slots + nodes[_first_node(page + 1):], data
    at = page - _first_data_page(image)
    return taken, nodes, data[:at] + (slots,) + data[at + 1:]


def page_of_node(image, node):
    """The page of the disk, and the slot there, that a node has."""
    return 1 + node // NODES_OF_A_PAGE, node % NODES_OF_A_PAGE


def page_of_data(image, page):
    """The page of the disk that a data page is, and its first slot."""
    return _first_data_page(image) + page, 0


def place_of_bit(image, page):
    """The page of the disk, and the slot there, that a data page's bit has."""
    return 0, page


def _is_row(thing, least, most):
    return isinstance(thing, tuple) and least <= len(thing) <= most


def _is_node(thing, pages):
    if thing is None:
        return True
    if not _is_row(thing, 3, 3):
        return False
    kind, links, own = thing
    if not _is_kind(kind) or not is_within(links, 0, MOST_LINKS):
        return False
    return _is_row(own, 0, MOST_PAGES_OF_A_NODE) and all([is_within(page, 0, pages - 1) for page in own])


def _is_kind(thing):
    return isinstance(thing, str) and thing in ("file", "folder")


def _is_data(thing, nodes):
    if not _is_row(thing, SLOTS_OF_DATA, SLOTS_OF_DATA):
        return False
    kind = thing[0]
    if kind is None:
        return _are_none(thing[1:])
    if not _is_kind(kind):
        return False
    if kind == "file":
        return is_text(thing[1]) and _are_none(thing[2:])
    return all([_is_entry(slot, nodes) for slot in thing[1:]])


def _is_entry(thing, nodes):
    if thing is None:
        return True
    return _is_row(thing, 2, 2) and is_name(thing[0]) and is_within(thing[1], 0, nodes - 1)


def _are_none(slots):
    return all([slot is None for slot in slots])


def _first_data_page(image):
    many = len(image[1])
    return 1 + (many + NODES_OF_A_PAGE - 1) // NODES_OF_A_PAGE


def _first_node(page):
    return (page - 1) * NODES_OF_A_PAGE


def _check_page(image, page):
    if not is_within(page, 0, disk_pages(image) - 1):
        raise NoPage(page)
