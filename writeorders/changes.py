"""Changes: which go along when a page is written, what they put, and which lists of them are closed."""

from writeorders.images import slots_of, with_slots


def goes_along(changes, page):
    """The numbers of those of the changes, all unwritten, that go along when the page is written."""
    listed = {change[0]: True for change in changes}
    along = {}
    held = {}
    for number, place, puts, leans in changes:
        if place != page:
            continue
        slots = [slot for slot, _ in puts]
        # An elder change that stays behind holds its slots: what came later must not overtake it.
        if _leans_on_others(leans, listed, along) or any([slot in held for slot in slots]):
            for slot in slots:
                held[slot] = True
        else:
            along[number] = True
    return sorted(along)


def put_on(image, changes):
    """The image with the changes put on it, one behind the other."""
    for _, page, puts, _ in changes:
        slots = list(slots_of(image, page))
        for slot, worth in puts:
            slots[slot] = worth
        image = with_slots(image, page, tuple(slots))
    return image


def is_closed(changes, numbers):
    """Whether all that the changes of these numbers lean on or came behind, of the list, is among them."""
    return closed_of(changes, numbers) == sorted(set(numbers))


def closed_of(changes, numbers):
    """The least closed list that has these numbers."""
    listed = {change[0]: True for change in changes}
    closed = {number: True for number in numbers}
    places = {}
    # What a change asks for is always lesser, so one way down finds all.
    for number, page, puts, leans in sorted(changes, key=lambda change: change[0], reverse=True):
        own = [(page, slot) for slot, _ in puts]
        if number in closed or any([place in places for place in own]):
            closed[number] = True
            for place in own:
                places[place] = True
            for lean in leans:
                if lean in listed:
                    closed[lean] = True
    return sorted(closed)


def _leans_on_others(leans, listed, along):
    return any([lean in listed and lean not in along for lean in leans])
