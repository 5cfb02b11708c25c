"""Programs: walks over the trees of a grammar, and the fields that are ignored."""

from fusewalks.errors import BadStatement, LimitExceeded, UnknownName


class Program:
    """The bodies of the walks, checked, and the fields at which clashes do not count."""

    MOST_WALKS = 6
    MOST_STATEMENTS = 6
    MOST_READS = 4
    MOST_NAMES = 6

    def __init__(self, grammar, walks):
        if len(walks) > Program.MOST_WALKS:
            raise LimitExceeded("walks")
        self.grammar = grammar
        self.names = tuple(walks)
        self._bodies = {}
        self._ignored = ()
        for walk, bodies in walks.items():
            for kind, body in bodies.items():
                _check_body(self, walk, kind, body)
                self._bodies[(walk, kind)] = tuple([_copied(statement) for statement in body])

    def body(self, walk, kind):
        """Return the body of a walk for a kind, as a tuple of statements."""
        if walk not in self.names:
            raise UnknownName(walk)
        self.grammar.family_of(kind)
        return self._bodies.get((walk, kind), ())

    def row(self, names):
        """Return the row as a tuple if it is one."""
        if len(names) > Program.MOST_NAMES:
            raise LimitExceeded("row")
        for name in names:
            if name not in self.names:
                raise UnknownName(name)
        return tuple(names)

    @property
    def ignored(self):
        """The ignored fields in the order of the grammar, each once."""
        return self._ignored

    @ignored.setter
    def ignored(self, fields):
        self._check_fields(fields)
        self._ignored = tuple([field for field in self.grammar.fields if field in fields])

    def ignore(self, *fields):
        """Make exactly these fields ignored."""
        self.ignored = fields

    def ignoring(self, *fields):
        """Return an object that ignores these fields in addition inside a `with` block."""
        self._check_fields(fields)
        return Ignoring(self, fields)

    def _check_fields(self, fields):
        for field in fields:
            if field not in self.grammar.fields:
                raise UnknownName(field)


class Ignoring:
    """Ignores fields in addition inside one `with` block."""

    def __init__(self, program, fields):
        self.program = program
        self.fields = tuple(fields)
        self.before = ()

    def __enter__(self):
        program = self.program
        self.before = program.ignored
        program.ignored = self.before + self.fields
        return self

    def __exit__(self, kind, value, trace):
        program = self.program
        program._ignored = self.before


def _check_body(program, walk, kind, body):
    program.grammar.family_of(kind)
    if len(body) > Program.MOST_STATEMENTS:
        raise LimitExceeded("statements")
    for index, statement in enumerate(body):
        if not _is_valid(program, kind, statement):
            raise BadStatement(walk, kind, index)


def _is_valid(program, kind, statement):
    many = len(program.grammar.children_of(kind))
    if statement[0] == "call":
        _, child, walk = statement
        return 1 <= child <= many and walk in program.names
    if statement[0] != "set":
        return False
    _, place, field, reads = statement
    touched = [(place, field), *reads]
    return len(reads) <= Program.MOST_READS and all(
        [0 <= there <= many and name in program.grammar.fields for there, name in touched]
    )


def _copied(statement):
    """Return a valid statement with its reads as tuples, so that no list is shared with the caller."""
    if statement[0] == "call":
        return tuple(statement)
    _, place, field, reads = statement
    return ("set", place, field, tuple([(there, name) for there, name in reads]))
