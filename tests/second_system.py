"""The system reckoned a second way: each change keeps what it is about, and all else is looked up among these.

It is slow, and follows points [10] to [13] and [18] word by word.
"""

from tests.small_images import come_to_by_words
from tests.test_changes import along_by_words
from writeorders.errors import Full
from writeorders.stops import tree_of


def places_of(image):
    """The page and slot on the disk of each bit, node and slot of a data page, with its worth."""
    taken, nodes, data = image
    told = {(0, at): bit for at, bit in enumerate(taken)}
    told.update({(1 + at // 4, at % 4): node for at, node in enumerate(nodes)})
    first = 1 + -(-len(nodes) // 4)
    told.update({(first + page, slot): worth for page, slots in enumerate(data) for slot, worth in enumerate(slots)})
    return told


def image_from(places, sizes):
    nodes, pages = sizes
    first = 1 + -(-nodes // 4)
    return (
        tuple(places[0, at] for at in range(pages)),
        tuple(places[1 + at // 4, at % 4] for at in range(nodes)),
        tuple(tuple(places[first + page, slot] for slot in range(5)) for page in range(pages)),
    )


class SecondSystem:
    def __init__(self, image, without=()):
        self.sizes = len(image[1]), len(image[0])
        self.first_data = 1 + -(-self.sizes[0] // 4)
        self.disk_places = places_of(image)
        self.memory_places = places_of(image)
        self.without = without
        self.changes = []
        self.about = []
        self.written = set()

    # What is told

    def memory(self):
        return image_from(self.memory_places, self.sizes)

    def disk(self):
        return image_from(self.disk_places, self.sizes)

    def unwritten(self):
        return [change for change in self.changes if change[0] not in self.written]

    def numbers(self, **wanted):
        """The unwritten changes that are about this."""
        return [
            number for number, about in enumerate(self.about)
            if number not in self.written and all(about.get(key) == worth for key, worth in wanted.items())
        ]

    def names(self):
        """All names that stand in memory, as (folder, name, node, place)."""
        image = self.memory()
        told = []
        for folder in come_to_by_words(image):
            for page in image[1][folder][2] if image[1][folder][0] == "folder" else ():
                for slot in range(1, 5):
                    if image[2][page][slot]:
                        told.append((folder, *image[2][page][slot], (self.first_data + page, slot)))
        return told

    def node_at(self, path):
        node = 0
        for word in path:
            node = [kid for folder, name, kid, _ in self.names() if (folder, name) == (node, word)][0]
        return node

    def unwritten_names(self, rows):
        """The numbers of the changes by which these names stand, of those that are unwritten."""
        told = []
        for _, _, _, place in rows:
            puts = [number for number, about in enumerate(self.about) if about.get("place") == place]
            if puts and puts[-1] not in self.written:
                told.append(puts[-1])
        return told

    def above(self, folder):
        """The folder, and all from which it is come to."""
        told = {folder}
        while True:
            more = told | {row[0] for row in self.names() if row[2] in told}
            if more == told:
                return told
            told = more

    # Changes

    def change(self, page, puts, leans=(), **about):
        number = len(self.changes)
        kept = {lean for rule, lean in leans if rule not in self.without}
        self.changes.append((number, page, tuple(puts), tuple(sorted(kept))))
        self.about.append(about)
        for slot, worth in puts:
            self.memory_places[page, slot] = worth
        return number

    def node_change(self, node, worth, leans=(), **about):
        return self.change(1 + node // 4, [(node % 4, worth)], leans, **about)

    def page_for(self, node, slots):
        image = self.memory()
        page = image[0].index(False)
        bit = self.change(0, [(page, True)])
        fill = self.change(self.first_data + page, list(enumerate(slots)))
        kind, links, pages = image[1][node]
        self.node_change(node, (kind, links, (*pages, page)), [("taken", bit), ("filled", fill)],
                         what="page", grown=node, by=page)

    def free_slots(self, folder):
        image = self.memory()
        return [(page, slot) for page in image[1][folder][2] for slot in range(1, 5) if image[2][page][slot] is None]

    def room_in(self, folder):
        if not self.free_slots(folder):
            self.page_for(folder, ("folder", None, None, None, None))

    def name(self, folder, name, node, changed, ring=()):
        page, slot = self.free_slots(folder)[0]
        leans = [("made", changed)] + [("ring", number) for number in ring]
        leans += [("held", number) for number in self.numbers(what="page", grown=folder, by=page)[-1:]]
        leans += [("once", number) for number in self.numbers(what="striking", folder=folder, name=name)]
        place = (self.first_data + page, slot)
        return self.change(place[0], [(slot, (name, node))], leans, what="name", place=place)

    def strike(self, path, leans):
        folder = self.node_at(path[:-1])
        row = [row for row in self.names() if row[:2] == (folder, path[-1])][0]
        number = self.change(row[3][0], [(row[3][1], None)], leans,
                             what="striking", folder=folder, name=path[-1], node=row[2], place=row[3])
        if "lowered" in self.without:
            self.lower(row[2], 1)
        else:
            self.about[number]["wait"] = ("lower", row[2])

    def lower(self, node, many):
        kind, links, pages = self.memory()[1][node]
        if links > many:
            self.node_change(node, (kind, links - many, pages))
        else:
            self.free_behind(self.node_change(node, None), pages)

    def free_behind(self, number, pages):
        if "freed" in self.without:
            self.free(pages)
        else:
            self.about[number]["wait"] = ("free", pages)

    def free(self, pages):
        for page in sorted(pages):
            self.change(0, [(page, False)])

    # Deeds

    def full(self, deed):
        image = self.memory()
        word, path = deed[:2]
        if word in ("make", "folder") and None not in image[1]:
            return "nodes"
        folder = None
        if word in ("make", "folder", "link", "move"):
            folder = self.node_at((deed[2] if word in ("link", "move") else path)[:-1])
            if self.free_slots(folder):
                folder = None
        elif word == "put" and len(image[1][self.node_at(path)][2]) == deed[2]:
            folder = self.node_at(path)
        if folder is not None and (all(image[0]) or len(image[1][folder][2]) >= 3):
            return "pages"
        if word in ("link", "move") and image[1][self.node_at(path)][1] >= 99:
            return "links"
        return None

    def do(self, deed):
        tree_of(self.memory()).do(deed)
        if self.full(deed):
            raise Full(self.full(deed))
        many = len(self.changes)
        getattr(self, "do_" + deed[0])(*deed[1:])
        return list(range(many, len(self.changes)))

    def do_make(self, path, kind="file"):
        folder = self.node_at(path[:-1])
        self.room_in(folder)
        node = self.memory()[1].index(None)
        self.name(folder, path[-1], node, self.node_change(node, (kind, 1, ())))

    def do_folder(self, path):
        self.do_make(path, "folder")

    def do_link(self, path, other):
        folder, node = self.node_at(other[:-1]), self.node_at(path)
        self.room_in(folder)
        kind, links, pages = self.memory()[1][node]
        changed = self.node_change(node, (kind, links + 1, pages))
        above = self.above(folder) if kind == "folder" else ()
        ring = [number for one in above for number in self.numbers(what="striking", node=one)]
        return self.name(folder, other[-1], node, changed, ring)

    def do_drop(self, path):
        folder, node = self.node_at(path[:-1]), self.node_at(path)
        stay = [row for row in self.names() if row[2] == node and row[:2] != (folder, path[-1])]
        leans = [("moved", number) for number in self.unwritten_names(stay)]
        above = {one for row in stay for one in self.above(row[0])}
        leans += [("way", number) for number in self.unwritten_names(row for row in self.names() if row[2] in above)]
        if self.memory()[1][node][0] == "folder":
            leans += [("moved", number) for number in self.numbers(what="striking", folder=node)]
        self.strike(path, leans)

    def do_move(self, path, other):
        leans = [("moved", self.do_link(path, other))]
        folders = [self.node_at(other[:many]) for many in range(1, len(other))]
        leans += [("way", number) for number in self.unwritten_names(row for row in self.names() if row[2] in folders)]
        self.strike(path, leans)

    def do_put(self, path, k, text):
        node = self.node_at(path)
        pages = self.memory()[1][node][2]
        if k == len(pages):
            self.page_for(node, ("file", text, None, None, None))
        else:
            self.change(self.first_data + pages[k], [(1, text)])

    def do_cut(self, path, many):
        node = self.node_at(path)
        kind, links, pages = self.memory()[1][node]
        if pages[many:]:
            self.free_behind(self.node_change(node, (kind, links, pages[:many])), pages[many:])

    # Writings

    def write(self, page):
        along = along_by_words(self.unwritten(), page)
        for number in along:
            for slot, worth in self.changes[number][2]:
                self.disk_places[page, slot] = worth
            self.written.add(number)
        for number in along:
            word, worth = self.about[number].get("wait", ("", None))
            if word == "lower":
                self.lower(worth, 1)
            elif word == "free":
                self.free(worth)
        return along
