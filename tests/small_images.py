"""Images put together by hand, and how what point [7] says of them is reckoned word by word."""

import random

EMPTY = (None, None, None, None, None)


def file_page(text):
    return "file", text, None, None, None


def folder_page(*names):
    """A page of a folder: what stands in it is told as `a3`, name and node, or None."""
    slots = [None if word is None else (word.rstrip("0123456789"), int(word.lstrip("abcdefghijklmnopqrstuvwxyz")))
             for word in names]
    return ("folder", *slots, *[None] * (4 - len(slots)))


def folder(links, *pages):
    return "folder", links, pages


def file(links, *pages):
    return "file", links, pages


def image_of(nodes, data, free=()):
    """An image in which all pages that are filled, but for the free ones, are taken."""
    taken = tuple(slots[0] is not None and page not in free for page, slots in enumerate(data))
    return taken, tuple(nodes), tuple(data)


def names_by_words(image, node):
    _, nodes, data = image
    if nodes[node] is None or nodes[node][0] != "folder":
        return []
    told = []
    for page in nodes[node][2]:
        if data[page][0] == "folder":
            told += [slot for slot in data[page][1:] if slot]
    return told


def come_to_by_words(image):
    told = {0}
    while True:
        more = told | {kid for node in told for _, kid in names_by_words(image, node)}
        if more == told:
            return sorted(told)
        told = more


def links_by_words(image, node):
    """How many links a node needs."""
    leading = sum(1 for one in come_to_by_words(image) for _, kid in names_by_words(image, one) if kid == node)
    return leading + 1 if node == 0 else leading


def within_by_words(image):
    """Tuples of two nodes of which the second is come to from the first by a name or more."""
    many = range(len(image[1]))
    pairs = {(node, kid) for node in many for _, kid in names_by_words(image, node)}
    for between in many:
        for one in many:
            for two in many:
                if (one, between) in pairs and (between, two) in pairs:
                    pairs.add((one, two))
    return pairs


def breaks_by_words(image):
    taken, nodes, data = image
    reached = come_to_by_words(image)
    within = within_by_words(image)
    told = set()
    if nodes[0] is None or nodes[0][0] == "file":
        told.add(("first", 0))
    for k in reached:
        if nodes[k] is None:
            if any(kid == k for one in reached for _, kid in names_by_words(image, one)):
                told.add(("node", k))
            continue
        kind, links, pages = nodes[k]
        names = [name for name, _ in names_by_words(image, k)]
        told |= {("page", k, p) for p in pages if not taken[p]}
        told |= {("sort", k, p) for p in pages if data[p][0] != kind}
        told |= {("two", p) for p in pages if pages.count(p) > 1}
        told |= {("two", p) for p in pages for j in reached if j != k and nodes[j] and p in nodes[j][2]}
        if links < links_by_words(image, k):
            told.add(("links", k))
        if any(names.count(name) > 1 for name in names):
            told.add(("names", k))
        if kind == "folder" and (k, k) in within:
            told.add(("ring", k))
    return sorted(told)


def leaks_by_words(image):
    taken, nodes, _ = image
    reached = come_to_by_words(image)
    pointed = {p for k in reached for p in nodes[k][2]}
    told = [("bit", p) for p, bit in enumerate(taken) if bit and p not in pointed]
    told += [("node", k) for k, node in enumerate(nodes) if node and k not in reached]
    for k in reached:
        many = nodes[k][1] - links_by_words(image, k)
        if many > 0:
            told.append(("links", k, many))
    return sorted(told)


def any_image(chance):
    """An image of which most break in some ways."""
    many, pages = chance.randint(2, 7), chance.randint(1, 6)
    data = []
    for _ in range(pages):
        kind = chance.choice(("folder", "folder", "folder", "file", None))
        if kind == "folder":
            slots = [(chance.choice("abcdef"), chance.randrange(many)) if chance.random() < 0.4 else None
                     for _ in range(4)]
            data.append(("folder", *slots))
        else:
            data.append(file_page(chance.choice(("", "text"))) if kind else EMPTY)
    nodes = []
    for node in range(many):
        kinds = ("folder", "folder", "file", None) if node else ("folder",) * 9 + ("file", None)
        kind = chance.choice(kinds)
        own = tuple(chance.randrange(pages) for _ in range(chance.choice((0, 1, 1, 1, 2))))
        nodes.append(kind and (kind, chance.choice((0, 1, 1, 2, 3)), own))
    taken = tuple(chance.random() < 0.8 for _ in range(pages))
    return taken, tuple(nodes), tuple(data)


def sound_image(chance):
    """An image that hangs together, with leaks of all kinds, and with things at two places."""
    many, pages = chance.randint(3, 12), chance.randint(3, 12)
    free = list(range(pages))
    chance.shuffle(free)
    kinds = ["folder"] + [chance.choice(("folder", "file")) for _ in range(many - 1)]
    own = [[free.pop() for _ in range(chance.choice((0, 1, 1, 2))) if free] for _ in range(many)]
    data = [chance.choice((EMPTY, file_page("old"), folder_page("x0", "x1"))) for _ in range(pages)]
    for node in range(many):
        names = iter(chance.sample("abcdefghijklmnop", 12))
        for page in own[node]:
            if kinds[node] == "file":
                data[page] = file_page("text " + str(page))
                continue
            slots = [None] * 4
            for at in range(4):
                # Names lead to greater nodes alone, so that no folder stands within itself.
                if node + 1 < many and chance.random() < 0.5:
                    kid = chance.randrange(node + 1, many)
                    slots[at] = (next(names), kid)
            data[page] = ("folder", *slots)
    nodes = [(kinds[node], 0, tuple(own[node])) for node in range(many)]
    image = (tuple(False for _ in range(pages)), tuple(nodes), tuple(data))
    reached = come_to_by_words(image)
    for node in range(many):
        needed = links_by_words(image, node)
        if node in reached:
            nodes[node] = (kinds[node], needed + chance.choice((0, 0, 0, 1, 3)), tuple(own[node]))
        else:
            nodes[node] = chance.choice((None, (kinds[node], chance.randint(0, 2), tuple(own[node]))))
    pointed = {p for node in reached for p in own[node]}
    taken = tuple(p in pointed or chance.random() < 0.3 for p in range(pages))
    return taken, tuple(nodes), tuple(data)


def many_images(make, seed, times):
    chance = random.Random(seed)
    return [make(chance) for _ in range(times)]
