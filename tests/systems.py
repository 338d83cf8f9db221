"""What tests of systems hand in: deeds by chance, images to begin with, and changes told by hand."""

from tests.small_images import sound_image
from writeorders.errors import Full, NoDeed, NoPart, NoPath, NotEmpty, There, Within, Wrong
from writeorders.images import disk_pages, first_image

REFUSALS = (NoDeed, NoPath, Wrong, There, NotEmpty, Within, NoPart, Full)
WORDS = ("make",) * 3 + ("folder",) * 2 + ("link",) + ("drop",) * 2 + ("move",) * 3 + ("put",) * 2 + ("cut",)


def any_deed(chance, system, letters="abcd"):
    """A deed that is perhaps done, or refused, of all that a system, or a tree, has."""
    paths = system.paths()
    folders = [()] + [path for path in paths if system.sort_at(path) == "folder"]
    word = chance.choice(WORDS)
    path = chance.choice(paths)[:6] if paths and chance.random() < 0.9 else (chance.choice(letters),)
    new = chance.choice(folders)[:5] + (chance.choice(letters),)
    if word in ("make", "folder"):
        return word, new
    if word in ("link", "move"):
        return word, path, new
    if word == "put":
        return word, path, chance.randint(0, 2), chance.choice(("", "x", "text"))
    if word == "cut":
        return word, path, chance.randint(0, 3)
    return word, path


def any_first(chance):
    """An image to begin with: an empty one, small or not, or one with leaks and things at two places."""
    if chance.random() < 0.5:
        return first_image(chance.randint(2, 16), chance.randint(1, 16))
    return sound_image(chance)


def any_page(chance, system):
    return chance.randrange(disk_pages(system.disk()))


def refused(system, deed):
    """The refusal of a deed, its class and its field, or None where it was done."""
    try:
        system.do(deed)
    except REFUSALS as held:
        return held.__class__, list(vars(held).values())
    return None


def state(system):
    """All that a refused asking leaves as it was."""
    return (
        system.memory(), system.disk(), system.changes(), system.unwritten(), system.writings(), system.least(),
        system.begun(), system.paths(), system.likeness(),
    )


# Changes of a system of 5 to 8 nodes, whose first data page is page 3 of the disk.

def bit(number, page, taken=True):
    return number, 0, ((page, taken),), ()


def filled(number, page, text=None):
    """A data page's five slots, a folder's, or a file's with its text."""
    slots = ("folder", None, None, None, None) if text is None else ("file", text, None, None, None)
    return number, 3 + page, tuple(enumerate(slots)), ()


def node(number, at, worth, *leans):
    return number, 1 + at // 4, ((at % 4, worth),), leans


def named(number, page, slot, name, at, *leans):
    return number, 3 + page, ((slot, (name, at)),), leans


def struck(number, page, slot, *leans):
    return number, 3 + page, ((slot, None),), leans


def folder(links, *pages):
    return "folder", links, pages


def file(links, *pages):
    return "file", links, pages
