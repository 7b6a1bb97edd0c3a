"""Askings asked: the answer of a store, in the kind of its tables."""

from whencewise.askings import askings_within, columns_of, columns_of_join
from whencewise.kinds import without_noughts
from whencewise.names import is_whole
from whencewise.tables import gathered, places_of, values_at
from whencewise.trials import passes


def ask(kind, asking, store):
    """The answer to an asking over a store, a dict from names to tables of the kind; or a refusal."""
    # All refusals go first, as they hang on columns alone, never on rows.
    columns_of(asking, {name: store[name][0] for name in store})
    return answered(kind, asking, store)


def answered(kind, asking, store):
    """The answer to an asking that isn't refused."""
    if asking[0] == "table":
        return store[asking[1]]
    return answered_by(kind, asking, [answered(kind, one, store) for one in askings_within(asking)])


def answered_by(kind, asking, within):
    """The answer to an asking that is no table, by the answers to those straight within it."""
    deed = DEEDS[asking[0]]
    return deed(kind, asking, within)


def picked(kind, asking, within):
    """The answer to a pick, by that to the asking within."""
    columns, pairs = within[0]
    return (columns, tuple([(row, note) for row, note in pairs if passes(asking[2], columns, row)]))


def kept_rows(kind, asking, within):
    """The answer to a keep, by that to the asking within."""
    columns, pairs = within[0]
    places = places_of(asking[2], columns)
    return (asking[2], gathered(kind, [(values_at(places, row), note) for row, note in pairs]))


def called_rows(kind, asking, within):
    """The answer to a call, by that to the asking within."""
    return (asking[2], within[0][1])


def joined(kind, asking, within):
    """The answer to a join, by those to ONE and OTHER."""
    one, other = within[0][0], within[1][0]
    columns = columns_of_join(asking, (one, other))
    shared = [column for column in other if column in one]
    beside = rows_by(shared, places_of(columns[len(one):], other), within[1])
    places = places_of(shared, one)
    found = []
    # The rows come sorted and each once: ONE's are, and so are those of OTHER's that go with the same row.
    for row, note in within[0][1]:
        for rest, factor in beside.get(values_at(places, row), []):
            found.append((row + rest, kind.times(note, factor)))
    return (columns, tuple(without_noughts(kind, found)))


def rows_by(shared, places, some):
    """Of a table, a dict from values in the shared columns to lists of tuples (values at places, note)."""
    at = places_of(shared, some[0])
    groups = {}
    for row, note in some[1]:
        groups.setdefault(values_at(at, row), []).append((values_at(places, row), note))
    return groups


def poured_rows(kind, asking, within):
    """The answer to a pour, by those to ONE and OTHER."""
    return (within[0][0], gathered(kind, within[0][1] + within[1][1]))


def totals(kind, asking, within):
    """The answer to a total, by that to the asking within."""
    columns, pairs = within[0]
    at = columns.index(asking[2])
    places = places_of(asking[3], columns)
    found = [(values_at(places, row), kind.many(said(row[at]), note)) for row, note in pairs]
    return (asking[3], gathered(kind, found))


def said(value):
    """How many a value says: a text or a number below 0 says 0."""
    if is_whole(value) and value > 0:
        return value
    return 0


def left_out(kind, asking, within):
    """The answer to a leave, by those to ONE and OTHER."""
    columns, pairs = within[0]
    places = places_of(within[1][0], columns)
    notes = dict(within[1][1])
    found = []
    for row, note in pairs:
        other = notes.get(values_at(places, row), kind.nought())
        found.append((row, kind.times(note, kind.lack(other))))
    return (columns, tuple(without_noughts(kind, found)))


DEEDS = {
    "pick": picked,
    "keep": kept_rows,
    "call": called_rows,
    "join": joined,
    "pour": poured_rows,
    "total": totals,
    "leave": left_out,
}
