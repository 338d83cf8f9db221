"""Deeds done in a ledger: the changes that each makes, and what these lean on."""

from writeorders.images import MOST_LINKS, MOST_PAGES_OF_A_NODE, SLOTS_OF_DATA, page_of_data
from writeorders.seen import folders_above, free_slot, names_to, node_at, place_of_name, places_of_nodes


def lacking(image, deed):
    """The word of what there is none of for a deed that else could be done, or None."""
    word = deed[0]
    if word in ("make", "folder") and None not in image[1]:
        return "nodes"
    grown = _node_that_grows(image, deed)
    if grown is not None and (False not in image[0] or len(image[1][grown][2]) == MOST_PAGES_OF_A_NODE):
        return "pages"
    if word in ("link", "move") and image[1][node_at(image, deed[1])][1] == MOST_LINKS:
        return "links"
    return None


def done(ledger, deed):
    """Do a deed that can be done; the numbers of its changes."""
    first = len(ledger.made)
    word, path = deed[0], deed[1]
    if word in ("make", "folder"):
        _make(ledger, path, "file" if word == "make" else "folder")
    elif word == "link":
        _link(ledger, path, deed[2])
    elif word == "drop":
        _drop(ledger, path)
    elif word == "move":
        _move(ledger, path, deed[2])
    elif word == "put":
        _put(ledger, path, deed[2], deed[3])
    else:
        _cut(ledger, path, deed[2])
    ledger.many_deeds += 1
    return list(range(first, len(ledger.made)))


def _folder_of(image, path):
    return node_at(image, path[:-1])


def _node_that_grows(image, deed):
    """The node that the deed gives a page more, or None."""
    word, path = deed[0], deed[1]
    if word == "put":
        node = node_at(image, path)
        return node if deed[2] == len(image[1][node][2]) else None
    if word in ("make", "folder", "link", "move"):
        folder = _folder_of(image, deed[2] if word in ("link", "move") else path)
        return folder if free_slot(image, folder) is None else None
    return None


def _leans(ledger, told):
    """All numbers of the told tuples (rule, numbers), rising, but for those of rules that are left out."""
    numbers = [number for rule, own in told if rule not in ledger.without for number in own]
    return tuple(sorted(set(numbers)))


def _give_page(ledger, node, slots):
    image = ledger.in_memory
    page = image[0].index(False)
    at, _ = page_of_data(image, page)
    bit = ledger.change_bit(page, True)
    filling = ledger.change(at, tuple(enumerate(slots)), ())
    kind, links, pages = image[1][node]
    leans = _leans(ledger, [("taken", [bit]), ("filled", [filling])])
    ledger.page_given[page] = ledger.change_node(node, (kind, links, pages + (page,)), leans)


def _make_room(ledger, folder):
    if free_slot(ledger.in_memory, folder) is None:
        _give_page(ledger, folder, ("folder",) + (None,) * (SLOTS_OF_DATA - 1))


def _put_name(ledger, path, node, told):
    """Put the last name of the path, which leans on the told numbers, its page and its strikings; its number."""
    image = ledger.in_memory
    folder, name = _folder_of(image, path), path[-1]
    page, slot = free_slot(image, folder)
    given = [ledger.page_given[page]] if ledger.page_given.get(page) in ledger.left else []
    strikings = [number for number, row in ledger.struck.items() if row[0] == folder and row[1] == name]
    leans = _leans(ledger, told + [("held", given), ("once", strikings)])
    return ledger.change(page_of_data(image, page)[0], ((slot, (name, node)),), leans)


def _strike(ledger, path, told):
    image = ledger.in_memory
    folder, name = _folder_of(image, path), path[-1]
    node = node_at(image, path)
    page, slot = place_of_name(image, folder, name)
    number = ledger.change(page, ((slot, None),), _leans(ledger, told))
    ledger.struck[number] = (folder, name, node)
    ledger.lower_behind(number, node)


def _make(ledger, path, kind):
    _make_room(ledger, _folder_of(ledger.in_memory, path))
    node = ledger.in_memory[1].index(None)
    changed = ledger.change_node(node, (kind, 1, ()))
    _put_name(ledger, path, node, [("made", [changed])])


def _link(ledger, path, other):
    """Give what is at the path this name more; the number of the name."""
    folder = _folder_of(ledger.in_memory, other)
    _make_room(ledger, folder)
    node = node_at(ledger.in_memory, path)
    kind, links, pages = ledger.in_memory[1][node]
    changed = ledger.change_node(node, (kind, links + 1, pages))
    told = [("made", [changed])]
    if kind == "folder":
        # On the disk nothing of the new way may stand within what is moved there.
        above = folders_above(ledger.in_memory, [folder])
        told.append(("ring", [number for number, row in ledger.struck.items() if row[2] in above]))
    return _put_name(ledger, other, node, told)


def _drop(ledger, path):
    image = ledger.in_memory
    node = node_at(image, path)
    own = place_of_name(image, _folder_of(image, path), path[-1])
    stay = [(folder, place) for folder, place in names_to(image, node) if place != own]
    ways = places_of_nodes(image, folders_above(image, [folder for folder, _ in stay]))
    told = [("moved", ledger.left_at([place for _, place in stay])), ("way", ledger.left_at(ways))]
    if image[1][node][0] == "folder":
        told.append(("moved", [number for number, row in ledger.struck.items() if row[0] == node]))
    _strike(ledger, path, told)


def _move(ledger, path, other):
    name = _link(ledger, path, other)
    image = ledger.in_memory
    folders = [node_at(image, other[:many]) for many in range(1, len(other))]
    _strike(ledger, path, [("moved", [name]), ("way", ledger.left_at(places_of_nodes(image, folders)))])


def _put(ledger, path, k, text):
    image = ledger.in_memory
    node = node_at(image, path)
    pages = image[1][node][2]
    if k == len(pages):
        _give_page(ledger, node, ("file", text) + (None,) * (SLOTS_OF_DATA - 2))
    else:
        ledger.change(page_of_data(image, pages[k])[0], ((1, text),), ())


def _cut(ledger, path, many):
    node = node_at(ledger.in_memory, path)
    kind, links, pages = ledger.in_memory[1][node]
    if many < len(pages):
        number = ledger.change_node(node, (kind, links, pages[:many]))
        ledger.free_behind(number, pages[many:])
