"""Dependencies: which items of a batch at a kind must stay in which order."""

from fusewalks.batches import checked_batch, list_steps
from fusewalks.errors import DependencyCycle


def items_of(program, kind, batch):
    """Return the list of the items, in the order of their first steps."""
    row = checked_batch(program, kind, batch)
    return _list_items(program, kind, row)


def reasons(program, kind, batch, earlier, later):
    """Yield all clashes whose first event belongs to `earlier` and whose second one belongs to `later`."""
    row = checked_batch(program, kind, batch)
    found = [clash for one, two, clash in list_clashes(program, kind, row) if one == earlier and two == later]
    yield from found


def dependencies(program, kind, batch):
    """Return the list of all dependencies `(earlier, later)`, in the order of the items."""
    row = checked_batch(program, kind, batch)
    linked = _linked(program, kind, row)
    items = _list_items(program, kind, row)
    return [(earlier, later) for earlier in items for later in items if (earlier, later) in linked]


def find_cycle(program, kind, batch):
    """Return the list of the items of a shortest cycle, or an empty list if there is none."""
    row = checked_batch(program, kind, batch)
    following = {item: [] for item in _list_items(program, kind, row)}
    for earlier, later in dependencies(program, kind, row):
        following[earlier].append(later)
    shortest = []
    for item in following:
        cycle = _cycle_through(item, following)
        if len(cycle) > 0 and (len(shortest) == 0 or len(cycle) < len(shortest)):
            shortest = cycle
    return shortest


def least_schedule(program, kind, batch):
    """Return the least schedule that keeps all dependencies."""
    row = checked_batch(program, kind, batch)
    waits_for = _waits_for(program, kind, row)
    placed = {}
    while len(placed) < len(waits_for):
        item = _first_ready(waits_for, placed)
        if item is None:
            raise DependencyCycle(kind, row, find_cycle(program, kind, row))
        placed[item] = True
    return list(placed)


def spans(program, kind, batch):
    """Return for each item the first and the last index that it has in schedules that keep all dependencies."""
    row = checked_batch(program, kind, batch)
    schedule = least_schedule(program, kind, row)
    waits_for = _waits_for(program, kind, row)
    above = {}
    for item in schedule:
        found = {before: True for before in waits_for[item]}
        for before in waits_for[item]:
            for earlier in above[before]:
                found[earlier] = True
        above[item] = found
    last = len(schedule) - 1
    return [
        (item, len(above[item]), last - len([later for later in schedule if item in above[later]]))
        for item in waits_for
    ]


def list_clashes(program, kind, batch):
    """Return `(earlier, later, clash)` for all clashes: the items of the two events, and the clash."""
    ignored = program.ignored
    parts = _step_events(program, kind, batch)
    found = []
    for at, (later, events) in enumerate(parts):
        for earlier, before in parts[:at]:
            if earlier != later:
                for clash in _clashes(before, events, ignored):
                    found.append((earlier, later, clash))
    return found


def _list_items(program, kind, batch):
    """Return the items, each once, in the order of their first steps."""
    return list({_item_of(step): True for step in list_steps(program, kind, batch)})


def _item_of(step):
    """Return the item to which a step belongs."""
    turn, index, statement = step
    if statement[0] == "call":
        return ("call", statement[1])
    return ("set", turn, index)


def _step_events(program, kind, batch):
    """Return for each step its item and its events, each with what it touches.

    What an event touches is a dict from `(place, field)`, as seen from the batch's node, to whether it is written.
    """
    calls = {}
    found = []
    for step in list_steps(program, kind, batch):
        turn, index, statement = step
        if statement[0] == "set":
            events = [((0, kind, turn, index), _touched(statement))]
        else:
            _, child, walk = statement
            earlier = calls.get(child, 0)
            calls[child] = earlier + 1
            events = _child_events(program, kind, child, walk, earlier)
        found.append((_item_of(step), events))
    return found


def _child_events(program, kind, child, walk, turn):
    """Return the events of the walk on the child, of whatever kind, with what they touch of the child itself."""
    family = program.grammar.children_of(kind)[child - 1]
    found = []
    for below in program.grammar.kinds_of(family):
        for index, statement in enumerate(program.body(walk, below)):
            if statement[0] == "set":
                touched = _touched(statement)
                own = {(child, field): touched[(place, field)] for place, field in touched if place == 0}
                found.append(((child, below, turn, index), own))
    return found


def _touched(statement):
    """Return what a "set" statement touches, with whether it is written."""
    _, place, field, reads = statement
    touched = {(there, name): False for there, name in reads}
    touched[(place, field)] = True
    return touched


def _shared(one, two, ignored):
    """Return the places and fields at which events that touch this clash."""
    return [at for at in one if at in two and (one[at] or two[at]) and at[1] not in ignored]


def _clashes(before, after, ignored):
    """Return the clashes of the events of two steps."""
    return [
        (first, second, place, field)
        for first, one in before
        for second, two in after
        for place, field in _shared(one, two, ignored)
    ]


def _merged(events):
    """Return what any of the events touches, with whether any of them writes it."""
    merged = {}
    for _, touched in events:
        for at in touched:
            merged[at] = touched[at] or merged.get(at, False)
    return merged


def _linked(program, kind, batch):
    """Return a dict whose keys are the dependencies.

    Steps have a clash exactly if what all their events touch, merged, has one; so no single clash is listed here.
    """
    ignored = program.ignored
    parts = [(item, _merged(events)) for item, events in _step_events(program, kind, batch)]
    linked = {}
    for at, (later, touched) in enumerate(parts):
        for earlier, before in parts[:at]:
            if earlier != later and len(_shared(before, touched, ignored)) > 0:
                linked[(earlier, later)] = True
    return linked


def _waits_for(program, kind, batch):
    """Return for each item, in order, the items on which it depends."""
    waits_for = {item: [] for item in _list_items(program, kind, batch)}
    for earlier, later in _linked(program, kind, batch):
        waits_for[later].append(earlier)
    return waits_for


def _first_ready(waits_for, placed):
    """Return the first item that is not placed and waits for no item that is not placed, or None."""
    for item in waits_for:
        if item not in placed and all([before in placed for before in waits_for[item]]):
            return item
    return None


def _cycle_through(start, following):
    """Return a shortest cycle that begins with this item, or an empty list."""
    came = {}
    queue = [start]
    at = 0
    while at < len(queue) and start not in came:
        item = queue[at]
        for later in following[item]:
            if later not in came:
                came[later] = item
                queue.append(later)
        at += 1
    if start not in came:
        return []
    cycle = [start]
    while came[cycle[-1]] != start:
        cycle.append(came[cycle[-1]])
    return [start, *cycle[:0:-1]]
