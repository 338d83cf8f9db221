"""What several tests hand in: things of any kind."""

SIXTY_FIGURES = 10 ** 60 - 1


class Prickly:
    """A thing that can't be compared, tested, measured, hashed or shown."""

    __hash__ = None

    def _refuse(self, *_):
        raise RuntimeError("this thing is to be looked at by its kind alone")

    __eq__ = __ne__ = __lt__ = __le__ = __gt__ = __ge__ = _refuse
    __bool__ = __len__ = __iter__ = __getitem__ = __contains__ = __repr__ = __str__ = _refuse


class Unhashable(int):
    """A whole number that is no key."""

    __hash__ = None


def cyclic_list():
    ring = []
    ring.append(ring)
    return ring


def cyclic_tuple():
    inner = []
    ring = (inner,)
    inner.append(ring)
    return ring


def no_whole_numbers():
    """Things of any kind of which none is a whole number."""
    return [
        None, True, False, 0.0, 1.0, 2.5, float("nan"), float("inf"), 1j, "", "0", "1", "file", "a",
        b"", b"a", bytearray(b"a"), (), (0,), (None,), [], [1], {}, {1: 2}, set(), {1}, frozenset(),
        range(3), object(), Prickly(), int, len, lambda: 3, Ellipsis, NotImplemented, ValueError(1),
        cyclic_list(), cyclic_tuple(),
    ]


def deep_tuple(depth=20):
    """Tuples so many within one another."""
    thing = "a"
    for _ in range(depth):
        thing = (thing,)
    return thing


def deep_list(depth=20):
    thing = "a"
    for _ in range(depth):
        thing = [thing]
    return thing


def things_of_any_kind():
    """Things of which none is a path, a deed or a tree."""
    others = [0, -1, 7, SIXTY_FIGURES, -SIXTY_FIGURES, Unhashable(1), "abcdefgh", "x" * 9000, deep_tuple(), deep_list()]
    return [thing for thing in no_whole_numbers() if not (isinstance(thing, tuple) and len(thing) == 0)] + others
