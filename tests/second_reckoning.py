"""The plain tree reckoned a second way: a folder is a dict from names to things, a file a list of texts."""

from writeorders.errors import NoPart, NoPath, NotEmpty, There, Within, Wrong


def is_folder(thing):
    return isinstance(thing, dict)


def thing_at(root, path):
    for name in path:
        root = root[name]
    return root


def met_on_the_way(root, path):
    """The refusal of the names ahead of the last one, or None."""
    for name in path[:-1]:
        if name not in root:
            return NoPath
        root = root[name]
        if not is_folder(root):
            return Wrong
    return None


def refused_path(root, path, new):
    """The refusal of a path at which something is looked for, or is to be made, or None."""
    met = met_on_the_way(root, path)
    if met is None:
        there = path[-1] in thing_at(root, path[:-1])
        if new and there:
            return There
        if not new and not there:
            return NoPath
    return met


def all_within(folder):
    """The folder and all folders that stand in it, at whatever depth."""
    return [folder] + [one for thing in folder.values() if is_folder(thing) for one in all_within(thing)]


def refusal(root, deed):
    """What the deed is refused with, a tuple of the error and its field's worth, or None."""
    word, path, *rest = deed
    met = refused_path(root, path, word in ("make", "folder"))
    if met is None and word in ("link", "put", "cut") and is_folder(thing_at(root, path)):
        met = Wrong
    if met is not None:
        return met, path
    if word in ("link", "move"):
        met = refused_path(root, rest[0], True)
        if met is not None:
            return met, rest[0]
    if word == "drop" and is_folder(thing_at(root, path)) and len(thing_at(root, path)) > 0:
        return NotEmpty, path
    if word == "move" and is_folder(thing_at(root, path)):
        target = thing_at(root, rest[0][:-1])
        if any(folder is target for folder in all_within(thing_at(root, path))):
            return Within, rest[0]
    if word in ("put", "cut") and rest[0] > len(thing_at(root, path)):
        return NoPart, rest[0]
    return None


def done(root, deed):
    """Do a deed that isn't refused."""
    word, path, *rest = deed
    folder, name = thing_at(root, path[:-1]), path[-1]
    if word == "make":
        folder[name] = []
    elif word == "folder":
        folder[name] = {}
    elif word == "link":
        thing_at(root, rest[0][:-1])[rest[0][-1]] = folder[name]
    elif word == "drop":
        del folder[name]
    elif word == "move":
        thing_at(root, rest[0][:-1])[rest[0][-1]] = folder[name]
        del folder[name]
    elif word == "put":
        k, text = rest
        if k == len(folder[name]):
            folder[name].append(text)
        else:
            folder[name][k] = text
    else:
        while len(folder[name]) > rest[0]:
            folder[name].pop()


def all_paths(root, ahead=()):
    told = []
    for name, thing in root.items():
        told.append(ahead + (name,))
        if is_folder(thing):
            told += all_paths(thing, ahead + (name,))
    return sorted(told)


def many_names(root, file):
    folders = {id(folder): folder for folder in all_within(root)}
    return sum(thing is file for folder in folders.values() for thing in folder.values())


def numbered(root, numbers):
    """The kinds, texts and kids by numbers, the first folder 0, as a tree is filled with them."""
    kinds, texts, kids, known = {}, {}, {}, {}
    numbers = iter(numbers)

    def number_of(thing, number):
        if id(thing) in known:
            return known[id(thing)]
        known[id(thing)] = number
        kinds[number] = "folder" if is_folder(thing) else "file"
        if is_folder(thing):
            kids[number] = {name: number_of(thing[name], next(numbers)) for name in thing}
        else:
            texts[number] = list(thing)
        return number

    number_of(root, 0)
    return kinds, texts, kids


def any_path(chance, root, most=4):
    """A path that is perhaps there, or nearly."""
    paths = all_paths(root)
    if paths and chance.random() < 0.7:
        path = chance.choice(paths)[:6]
        if chance.random() < 0.4:
            path = (path + (chance.choice("abcd"),))[-6:] if chance.random() < 0.8 else path[:-1]
        if path:
            return path
    return tuple(chance.choice("abcd") for _ in range(chance.randint(1, most)))


def any_deed(chance, root):
    word = chance.choice(("make", "make", "folder", "folder", "link", "drop", "move", "move", "put", "put", "cut"))
    path = any_path(chance, root)
    if word in ("link", "move"):
        return word, path, any_path(chance, root)
    if word == "put":
        return word, path, chance.randint(0, 2), chance.choice(("", "x", "text " + str(chance.randint(0, 9))))
    if word == "cut":
        return word, path, chance.randint(0, 3)
    return word, path
