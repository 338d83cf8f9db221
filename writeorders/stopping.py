"""All that may be on the disk when it stops."""

from writeorders.changes import goes_along
from writeorders.errors import (
    Full, NoDeed, NoNumber, NoPart, NoPath, NotEmpty, There, TooMany, Within, Wrong,
)
from writeorders.images import is_within

MOST_OF_ALL = 2000
STANDS_FOR_AN_IMAGE = 10


def all_images(system, deeds, *, most=400):
    """All images that may be on the disk while the deeds are done in order, sorted by repr; or NoNumber, TooMany."""
    if not is_within(most, 1, MOST_OF_ALL):
        raise NoNumber(most)
    images = {}
    met = {}
    ahead = [(0, system.twin())]
    while ahead:
        many, stand = ahead.pop()
        key = (many,) + stand.likeness()
        if key in met:
            continue
        met[key] = True
        images[stand.disk()] = True
        if len(images) > most or len(met) > most * STANDS_FOR_AN_IMAGE:
            raise TooMany(most)
        if many < len(deeds):
            ahead.append((many + 1, _behind(stand, deeds[many])))
        ahead.extend([(many, later) for later in _written(stand)])
    return sorted(list(images), key=lambda image: repr(image))


def _behind(stand, deed):
    """A twin that did the deed, or passed it over."""
    told = stand.twin()
    try:
        told.do(deed)
    except (NoDeed, NoPath, Wrong, There, NotEmpty, Within, NoPart, Full):
        return told
    return told


def _written(stand):
    """For each page by whose writing something goes along a twin that wrote it."""
    changes = stand.unwritten()
    told = []
    for page in sorted(set([change[1] for change in changes])):
        if goes_along(changes, page):
            twin = stand.twin()
            twin.write(page)
            told.append(twin)
    return told
