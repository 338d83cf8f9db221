"""What breaks in an image, and what only leaks there."""

from writeorders.errors import Broken
from writeorders.ways import reached


def come_to(image):
    """The nodes that are come to: node 0, and those of all names in folders that are come to."""
    return reached(_all_kids(image), [0])


def breaks(image):
    """What breaks in the image, sorted, each once; it hangs together where this is nothing."""
    nodes = come_to(image)
    found = (
        _nodes_that_are_none(image, nodes)
        + _pages_that_are_none(image, nodes)
        + _pages_of_two(image, nodes)
        + _links_too_few(image, nodes)
        + _names_that_stand_twice(image, nodes)
        + _folders_within_themselves(image, nodes)
    )
    return sorted(set(found))


def leaks(image):
    """What leaks in an image that hangs together, sorted; or Broken."""
    if breaks(image):
        raise Broken()
    nodes = come_to(image)
    return sorted(_bits_of_none(image, nodes) + _nodes_of_none(image, nodes) + _links_too_many(image, nodes))


def names_of(image, node):
    """The names of a folder as tuples (name, node), page by page; none of what is no folder."""
    if not _is_folder(image, node):
        return []
    pages = [image[2][page] for page in image[1][node][2]]
    return [slot for slots in pages if slots[0] == "folder" for slot in slots[1:] if slot is not None]


def _is_folder(image, node):
    return image[1][node] is not None and image[1][node][0] == "folder"


def _all_kids(image):
    return {node: [kid for _, kid in names_of(image, node)] for node in range(len(image[1]))}


def _pointed_to(image, nodes):
    """Of each of the nodes, of each page that it points to, tuples (node, page)."""
    return [(node, page) for node in nodes if image[1][node] is not None for page in image[1][node][2]]


def _nodes_that_are_none(image, nodes):
    found = [("node", node) for node in nodes if node > 0 and image[1][node] is None]
    if not _is_folder(image, 0):
        found.append(("first", 0))
    return found


def _pages_that_are_none(image, nodes):
    taken, all_nodes, data = image
    pointed = _pointed_to(image, nodes)
    never_taken = [("page", node, page) for node, page in pointed if not taken[page]]
    return never_taken + [("sort", node, page) for node, page in pointed if data[page][0] != all_nodes[node][0]]


def _pages_of_two(image, nodes):
    pages = [page for _, page in _pointed_to(image, nodes)]
    return [("two", page) for page in pages if pages.count(page) > 1]


def _links_beyond(image, nodes):
    """Of each of the nodes that isn't free, a tuple of it and how many links it has beyond what leads to it."""
    led_to = [0] + [kid for node in nodes for _, kid in names_of(image, node)]
    return [(node, image[1][node][1] - led_to.count(node)) for node in nodes if image[1][node] is not None]


def _links_too_few(image, nodes):
    return [("links", node) for node, beyond in _links_beyond(image, nodes) if beyond < 0]


def _names_that_stand_twice(image, nodes):
    found = []
    for node in nodes:
        names = [name for name, _ in names_of(image, node)]
        if len(names) > len(set(names)):
            found.append(("names", node))
    return found


def _folders_within_themselves(image, nodes):
    kids = _all_kids(image)
    return [("ring", node) for node in nodes if node in reached(kids, kids[node])]


def _bits_of_none(image, nodes):
    pages = [page for _, page in _pointed_to(image, nodes)]
    return [("bit", page) for page, bit in enumerate(image[0]) if bit and page not in pages]


def _nodes_of_none(image, nodes):
    return [("node", node) for node, worth in enumerate(image[1]) if worth is not None and node not in nodes]


def _links_too_many(image, nodes):
    return [("links", node, beyond) for node, beyond in _links_beyond(image, nodes) if beyond > 0]
