"""What is seen in an image that hangs together: its names, where they stand, and its plain tree."""

from writeorders.images import page_of_data
from writeorders.looker import come_to, names_of
from writeorders.trees import Tree
from writeorders.ways import reached


def tree_on(image):
    """The plain tree of an image that hangs together."""
    _, nodes, data = image
    kinds = {node: nodes[node][0] for node in come_to(image)}
    texts = {node: [data[page][1] for page in nodes[node][2]] for node in kinds if kinds[node] == "file"}
    kids = {node: dict(names_of(image, node)) for node in kinds if kinds[node] == "folder"}
    tree = Tree()
    tree.filled(kinds, texts, kids)
    return tree


def node_at(image, path):
    """The node of a path that is there."""
    node = 0
    for name in path:
        node = dict(names_of(image, node))[name]
    return node


def place_of_name(image, folder, name):
    """The page of the disk, and the slot there, of a name that stands in the folder."""
    return [place for own, _, place in _entries(image, folder) if own == name][0]


def places_of_path(image, path):
    """Where each name of a path that is there stands."""
    return [place_of_name(image, node_at(image, path[:at]), name) for at, name in enumerate(path)]


def names_to(image, node):
    """Tuples (folder, place) of all names of the node."""
    return [(folder, place) for folder in _folders(image) for _, kid, place in _entries(image, folder) if kid == node]


def places_of_nodes(image, nodes):
    """Where all names of these nodes stand."""
    return [place for node in nodes for _, place in names_to(image, node)]


def folders_above(image, folders):
    """All folders from which any of these is come to, these too, rising."""
    parents = {node: [folder for folder, _ in names_to(image, node)] for node in _folders(image)}
    return reached(parents, folders)


def free_slot(image, folder):
    """The data page, and the slot there, of the first free slot of a folder; None where none is free."""
    for page in image[1][folder][2]:
        slots = image[2][page]
        if None in slots:
            return page, slots.index(None)
    return None


def _folders(image):
    return [node for node in come_to(image) if image[1][node][0] == "folder"]


def _entries(image, folder):
    """The names of a folder with their nodes and places, page by page."""
    told = []
    for page in image[1][folder][2]:
        at, _ = page_of_data(image, page)
        slots = list(enumerate(image[2][page]))
        told.extend([(worth[0], worth[1], (at, slot)) for slot, worth in slots[1:] if worth is not None])
    return told
