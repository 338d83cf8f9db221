"""The plain tree: what the system is to whoever uses it."""

from writeorders.deeds import is_deed
from writeorders.errors import NoDeed, NoPart, NoPath, NotEmpty, There, Within, Wrong
from writeorders.images import is_name
from writeorders.ways import reached


class Tree:
    """Files and folders by numbers, the first folder 0, and the names that lead to them."""

    def __init__(self):
        self._kinds = {0: "folder"}
        self._texts = {}
        self._kids = {0: {}}
        self._next = 1

    def do(self, deed):
        """Do a deed; one that is refused changes nothing."""
        if not is_deed(deed):
            raise NoDeed()
        word, path = deed[0], deed[1]
        if word == "make":
            self._make(path, "file")
        elif word == "folder":
            self._make(path, "folder")
        elif word == "link":
            self._link(path, deed[2])
        elif word == "drop":
            self._drop(path)
        elif word == "move":
            self._move(path, deed[2])
        elif word == "put":
            self._put(path, deed[2], deed[3])
        else:
            self._cut(path, deed[2])

    def sort_at(self, path):
        """What is at the path, `file` or `folder`; or NoPath, Wrong."""
        return self._kinds[self._node_at(path)]

    def names(self, path):
        """The names of a folder, sorted; or NoPath, Wrong."""
        return sorted(self._kids[self._node_of_kind(path, "folder")])

    def read(self, path):
        """The texts of a file's pages; or NoPath, Wrong."""
        return list(self._texts[self._node_of_kind(path, "file")])

    def many_names(self, path):
        """How many names lead to a file; or NoPath, Wrong."""
        return self._many_leading_to(self._node_of_kind(path, "file"))

    def paths(self):
        """All paths but (), sorted."""
        found = []
        ahead = [((), 0)]
        while ahead:
            path, node = ahead.pop()
            for name, kid in self._kids[node].items():
                way = path + (name,)
                found.append(way)
                if self._kinds[kid] == "folder":
                    ahead.append((way, kid))
        return sorted(found)

    def copy(self):
        """A tree that is alike and goes on by itself."""
        told = Tree()
        told.filled(self._kinds, self._texts, self._kids)
        return told

    def filled(self, kinds, texts, kids):
        """Be the tree of these numbers: the kind of each, the texts of files, the names of folders with theirs."""
        self._kinds = dict(kinds)
        self._texts = {node: list(texts[node]) for node in texts}
        self._kids = {node: dict(kids[node]) for node in kids}
        self._next = max(list(kinds)) + 1

    def __eq__(self, other):
        return isinstance(other, Tree) and self._is_like(other)

    def _make(self, path, kind):
        folder = self._folder_for(path)
        node = self._next
        self._next = node + 1
        self._kinds[node] = kind
        if kind == "file":
            self._texts[node] = []
        else:
            self._kids[node] = {}
        self._kids[folder][path[-1]] = node

    def _link(self, path, other):
        node = self._node_of_kind(path, "file")
        folder = self._folder_for(other)
        self._kids[folder][other[-1]] = node

    def _drop(self, path):
        node = self._node_at(path)
        if self._kids.get(node):
            raise NotEmpty(path)
        self._strike(path)
        if self._many_leading_to(node) == 0:
            self._forget(node)

    def _move(self, path, other):
        node = self._node_at(path)
        folder = self._folder_for(other)
        if folder in reached(self._all_kids(), [node]):
            raise Within(other)
        self._strike(path)
        self._kids[folder][other[-1]] = node

    def _put(self, path, k, text):
        texts = self._texts[self._node_of_kind(path, "file")]
        if k > len(texts):
            raise NoPart(k)
        texts[k:k + 1] = [text]

    def _cut(self, path, many):
        texts = self._texts[self._node_of_kind(path, "file")]
        if many > len(texts):
            raise NoPart(many)
        del texts[many:]

    def _node_at(self, path):
        """The number of what is at the path; or NoPath, of anything, Wrong where a file stands on the way."""
        if not isinstance(path, tuple):
            raise NoPath(path)
        return self._gone(path, path)

    def _node_of_kind(self, path, kind):
        node = self._node_at(path)
        if self._kinds[node] != kind:
            raise Wrong(path)
        return node

    def _folder_for(self, path):
        """The number of the folder in which the path's last name would stand, where it can; or a refusal."""
        folder = self._gone(path, path[:-1])
        if self._kinds[folder] != "folder":
            raise Wrong(path)
        if path[-1] in self._kids[folder]:
            raise There(path)
        return folder

    def _gone(self, path, names):
        """The number that the names lead to; the path is what a refusal tells."""
        node = 0
        for name in names:
            if self._kinds[node] != "folder":
                raise Wrong(path)
            if not is_name(name) or name not in self._kids[node]:
                raise NoPath(path)
            node = self._kids[node][name]
        return node

    def _strike(self, path):
        folder = self._gone(path, path[:-1])
        del self._kids[folder][path[-1]]

    def _forget(self, node):
        kind = self._kinds[node]
        del self._kinds[node]
        if kind == "file":
            del self._texts[node]
        else:
            del self._kids[node]

    def _all_kids(self):
        return {node: list(names.values()) for node, names in self._kids.items()}

    def _many_leading_to(self, node):
        kids = self._all_kids()
        return sum([kids[folder].count(node) for folder in reached(kids, [0]) if folder in kids])

    def _is_like(self, other):
        """Whether all paths lead to the like here and there, and each file to one alone."""
        pairs = {(0, 0): True}
        ahead = [(0, 0)]
        while ahead:
            one, two = ahead.pop()
            if not self._has_like(one, other, two):
                return False
            for name, kid in self._kids.get(one, {}).items():
                pair = (kid, other._kids[two][name])
                if pair not in pairs:
                    pairs[pair] = True
                    ahead.append(pair)
        files = [(one, two) for one, two in pairs if one in self._texts]
        return len(set([one for one, _ in files])) == len(files) == len(set([two for _, two in files]))

    def _has_like(self, node, other, twin):
        if self._kinds[node] != other._kinds[twin]:
            return False
        if self._kinds[node] == "file":
            return self._texts[node] == other._texts[twin]
        return sorted(self._kids[node]) == sorted(other._kids[twin])
