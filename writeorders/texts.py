"""Images written as rows of text, and read back."""

from writeorders.errors import NoText
from writeorders.figures import is_figures, number_of
from writeorders.images import LEAST_NODES, MOST_NODES, MOST_PAGES, SLOTS_OF_DATA, is_image


def shown(image):
    """The text of an image."""
    taken, nodes, data = image
    rows = [" ".join(["taken"] + ["1" if bit else "0" for bit in taken])]
    rows.extend([_shown_node(node) for node in nodes])
    rows.extend([_shown_data(slots) for slots in data])
    return "\n".join(rows)


def read(text):
    """The image of a text; or NoText."""
    if not isinstance(text, str):
        raise NoText(0)
    rows = text.split("\n")
    taken = _read_map(rows[0])
    if taken is None:
        raise NoText(0)
    first = 1 + min(max(len(rows) - 1 - len(taken), LEAST_NODES), MOST_NODES)
    last = first + len(taken)
    for number, row in enumerate(rows):
        if number > 0 and not _has_form(row, number, first, last):
            raise NoText(number)
    if len(rows) < last:
        raise NoText(len(rows))
    nodes = [_read_node(row) for row in rows[1:first]]
    image = (taken, tuple(nodes), tuple([_read_data(row) for row in rows[first:]]))
    if not is_image(image):
        raise NoText(None)
    return image


def _shown_node(node):
    if node is None:
        return "free"
    kind, links, pages = node
    return " ".join([kind, str(links)] + [str(page) for page in pages])


def _shown_data(slots):
    if slots[0] is None:
        return "empty"
    if slots[0] == "file":
        return f"file {slots[1]}"
    return " ".join(["folder"] + ["-" if slot is None else f"{slot[0]}={slot[1]}" for slot in slots[1:]])


def _has_form(row, number, first, last):
    """Whether the row of this number is one of a node, or from first on of a data page, and none too many."""
    if number < first:
        return _is_node_row(row)
    return number < last and _is_data_row(row)


def _read_map(row):
    """The map, or None where the row is none."""
    words = row.split(" ")
    bits = words[1:]
    if words[0] != "taken" or not 1 <= len(bits) <= MOST_PAGES or not all([bit in ("0", "1") for bit in bits]):
        return None
    return tuple([bit == "1" for bit in bits])


def _is_node_row(row):
    words = row.split(" ")
    if words[0] not in ("file", "folder"):
        return row == "free"
    return len(words) > 1 and all([is_figures(word) for word in words[1:]])


def _read_node(row):
    if row == "free":
        return None
    words = row.split(" ")
    numbers = [number_of(word) for word in words[1:]]
    return words[0], numbers[0], tuple(numbers[1:])


def _is_data_row(row):
    if row == "empty" or row.startswith("file "):
        return True
    words = row.split(" ")
    return words[0] == "folder" and len(words) == SLOTS_OF_DATA and all([_is_slot(word) for word in words[1:]])


def _is_slot(word):
    if word == "-":
        return True
    name, sign, number = word.partition("=")
    return name != "" and all(["a" <= letter <= "z" for letter in name]) and sign == "=" and is_figures(number)


def _read_data(row):
    if row == "empty":
        return (None,) * SLOTS_OF_DATA
    if row.startswith("file "):
        return ("file", row[len("file "):]) + (None,) * (SLOTS_OF_DATA - 2)
    return ("folder",) + tuple([_read_slot(word) for word in row.split(" ")[1:]])


def _read_slot(word):
    if word == "-":
        return None
    name, _, number = word.partition("=")
    return name, number_of(number)
