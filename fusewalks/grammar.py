"""Grammars: the fields and the kinds of the nodes of trees."""

from fusewalks.errors import BadGrammar, LimitExceeded, UnknownName


class Grammar:
    """The fields and the kinds of nodes, checked in the order of the document."""

    MOST_FIELDS = 6
    MOST_KINDS = 8
    MOST_CHILDREN = 3
    MOST_FAMILIES = 3

    def __init__(self, fields, kinds, *, root=None):
        rows = [(name, family, tuple(children)) for name, family, children in kinds]
        families = _in_order([row[1] for row in rows])
        _check_fields(fields)
        _check_kinds(rows, families)
        if root is not None and root not in families:
            raise BadGrammar("root")
        sizes = _least_sizes(rows)
        if len(sizes) < len(rows):
            raise BadGrammar("finite")
        self.fields = tuple(fields)
        self.kinds = tuple([row[0] for row in rows])
        self.families = tuple(families)
        self.root = families[0] if root is None else root
        self._families = {row[0]: row[1] for row in rows}
        self._children = {row[0]: row[2] for row in rows}
        self._sizes = sizes

    def family_of(self, kind):
        """Return the family of a kind."""
        self._check_kind(kind)
        return self._families[kind]

    def children_of(self, kind):
        """Return the tuple of the families of a kind's children."""
        self._check_kind(kind)
        return self._children[kind]

    def kind_size(self, kind):
        """Return the fewest nodes of a tree whose root has this kind."""
        self._check_kind(kind)
        return self._sizes[kind]

    def kinds_of(self, family):
        """Return the tuple of a family's kinds, in order."""
        if family not in self.families:
            raise UnknownName(family)
        return tuple([kind for kind in self.kinds if self._families[kind] == family])

    def least_size(self, family):
        """Return the fewest nodes of a tree of this family."""
        return min([int(self._sizes[kind]) for kind in self.kinds_of(family)])

    def _check_kind(self, kind):
        if kind not in self.kinds:
            raise UnknownName(kind)


def _in_order(names):
    """Return the names in the order in which they first occur, each once."""
    return list({name: True for name in names})


def _check_fields(fields):
    if len(fields) > Grammar.MOST_FIELDS:
        raise LimitExceeded("fields")
    if len(_in_order(fields)) < len(fields):
        raise BadGrammar("fields")


def _check_kinds(rows, families):
    if len(rows) == 0 or len(_in_order([row[0] for row in rows])) < len(rows):
        raise BadGrammar("kinds")
    if len(rows) > Grammar.MOST_KINDS:
        raise LimitExceeded("kinds")
    if any([len(row[2]) > Grammar.MOST_CHILDREN for row in rows]):
        raise LimitExceeded("children")
    if len(families) > Grammar.MOST_FAMILIES:
        raise LimitExceeded("families")
    if any([child not in families for row in rows for child in row[2]]):
        raise BadGrammar("children")


def _least_sizes(rows):
    """Return the fewest nodes of a tree of each kind, without the kinds that have no finite tree."""
    sizes = {}
    least = {}
    changed = True
    while changed:
        changed = False
        for name, family, children in rows:
            if any([child not in least for child in children]):
                continue
            size = 1 + sum([least[child] for child in children])
            if name not in sizes or size < sizes[name]:
                sizes[name] = size
                changed = True
            if family not in least or size < least[family]:
                least[family] = size
    return sizes
