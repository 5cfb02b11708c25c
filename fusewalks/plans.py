"""Plans: a row of walks that is cut into groups, and the search for good ones."""

from fusewalks.errors import DependencyCycle, WalkError
from fusewalks.fusion import Fusion, fuse
from fusewalks.traces import Recorder, check_root


class Plan:
    """Groups of walks that are run one after the other, each as one fused walk."""

    def __init__(self, *groups):
        self._groups = tuple([tuple(group) for group in groups if len(group) > 0])

    def __iter__(self):
        return iter(self._groups)

    def __len__(self):
        return len(self._groups)

    def __contains__(self, name):
        return any([name in group for group in self._groups])

    def __eq__(self, other):
        return isinstance(other, Plan) and self._groups == other._groups

    def __str__(self):
        return " + ".join(["|".join(group) for group in self._groups])

    def __add__(self, other):
        if not isinstance(other, Plan):
            return NotImplemented
        groups = [*self._groups, *other._groups]
        return Plan(*groups)

    def __or__(self, other):
        if not isinstance(other, Plan):
            return NotImplemented
        names = self.walks + other.walks
        return Plan(names)

    def __mul__(self, times):
        groups = self._groups * times
        return Plan(*groups)

    def __rmul__(self, times):
        return self * times

    def __le__(self, other):
        if not isinstance(other, Plan):
            return NotImplemented
        ends = _ends(self._groups)
        return self.walks == other.walks and all([end in ends for end in _ends(other._groups)])

    @property
    def walks(self):
        """The tuple of all names of walks, in order."""
        return tuple([name for group in self._groups for name in group])

    # The first name is a parameter of its own, because a method has a plain parameter before a star.
    @staticmethod
    def apart(first=None, *names):
        """Return the plan in which each name is a group of its own."""
        if first is None:
            return Plan()
        groups = [(name,) for name in (first, *names)]
        return Plan(*groups)

    @staticmethod
    def together(first=None, *names):
        """Return the plan with one group of all these names."""
        if first is None:
            return Plan()
        return Plan((first, *names))


def build(program, plan):
    """Return the list of the fusions of the plan's groups, each arranged."""
    program.row(plan.walks)
    return [fuse(program, group) for group in plan]


def perform(program, plan, tree):
    """Return the trace of running the plan on the tree."""
    fusions = build(program, plan)
    check_root(program, tree)
    recorder = Recorder()
    for fusion in fusions:
        fusion.run_into(recorder, tree)
    return recorder.finished()


def fewest_groups(program, names):
    """Return the plan for the row with the fewest groups that can be fused, and among these the longest first ones."""
    row = program.row(names)
    for name in row:
        fuse(program, (name,))
    # Every walk can be fused alone from here on, so there is a plan for every end of the row.
    best = {len(row): ()}
    for start in reversed(range(len(row))):
        for end in reversed(range(start + 1, len(row) + 1)):
            fewer = start not in best or len(best[end]) + 1 < len(best[start])
            if fewer and _can_be_fused(program, row[start:end]):
                best[start] = (row[start:end], *best[end])
    groups = best[0]
    return Plan(*groups)


def trial(program, names, *fields):
    """Return whether the row can be fused while these fields are ignored in addition."""
    with program.ignoring(*fields):
        return _can_be_arranged(Fusion(program, names))


def fewest_ignored(program, names):
    """Return the tuple of the fewest fields that let the row be fused when they are ignored in addition."""
    fusion = Fusion(program, names)
    fields = program.grammar.fields
    choices = [choice for many in range(len(fields) + 1) for choice in _choices(fields, many)]
    at = 0
    # The last choice is all fields, and then nothing clashes: so the search ends.
    while not _helps(program, fusion, choices[at]):
        at += 1
    return choices[at]


def _ends(groups):
    """Return where the groups end in the row of all their walks."""
    ends = []
    end = 0
    for group in groups:
        end += len(group)
        ends.append(end)
    return ends


def _can_be_fused(program, names):
    try:
        fuse(program, names)
    except WalkError:
        return False
    return True


def _helps(program, fusion, fields):
    """Return whether the fusion can be arranged while these fields are ignored in addition."""
    with program.ignoring(*fields):
        return _can_be_arranged(fusion)


def _can_be_arranged(fusion):
    try:
        fusion.arrange()
    except DependencyCycle:
        return False
    return True


def _choices(fields, many):
    """Return all tuples of so many of the fields, in the order of the fields."""
    if many == 0:
        return [()]
    return [
        (field, *rest)
        for at, field in enumerate(fields)
        for rest in _choices(fields[at + 1:], many - 1)
    ]
