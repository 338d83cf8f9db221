"""The refusals: each has its fields as attributes, and none is under another one."""


class NoSize(ValueError):
    """No number of nodes, or of data pages."""

    def __init__(self, number):
        self.number = number


class NoImage(ValueError):
    """No image by its form."""


class Broken(ValueError):
    """An image that does not hang together."""


class NoDeed(ValueError):
    """No deed by its form."""


class Wrong(ValueError):
    """A file where a folder is asked, or a folder where a file is."""

    def __init__(self, path):
        self.path = path


class NotEmpty(ValueError):
    """A folder that has names."""

    def __init__(self, path):
        self.path = path


class Within(ValueError):
    """A place within the folder that would be moved there."""

    def __init__(self, path):
        self.path = path


class NoStep(ValueError):
    """No step by its form; number is its place, None of no list of steps."""

    def __init__(self, number):
        self.number = number


class NoRule(ValueError):
    """No rule of leaning, or one that stood ahead."""

    def __init__(self, word):
        self.word = word


class NoText(ValueError):
    """No text of an image; row is the first that is wrong, None where the rows make no image."""

    def __init__(self, row):
        self.row = row


class NoRow(ValueError):
    """No row that a desk knows."""


class NoPath(LookupError):
    """Nothing is at this path."""

    def __init__(self, path):
        self.path = path


class NoPage(LookupError):
    """No page of this disk."""

    def __init__(self, page):
        self.page = page


class NoChange(LookupError):
    """No change that was made."""

    def __init__(self, number):
        self.number = number


class NoLeak(LookupError):
    """No leak that can be mended now."""


class NoSystem(LookupError):
    """A desk that keeps no system."""


class NoPart(IndexError):
    """No page of a file, or more than it has."""

    def __init__(self, number):
        self.number = number


class There(KeyError):
    """Something is at this path."""

    def __init__(self, path):
        self.path = path


class Full(OverflowError):
    """No room; word is what there is none of."""

    def __init__(self, word):
        self.word = word


class TooMany(OverflowError):
    """More images, or stands, than were allowed."""

    def __init__(self, many):
        self.many = many


class NoNumber(OverflowError):
    """No number within the bounds."""

    def __init__(self, number):
        self.number = number


class NoTime(RuntimeError):
    """A system that was just begun is asked, and this one was not."""
