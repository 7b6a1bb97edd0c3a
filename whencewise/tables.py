"""Tables: rows of values, each with a note."""

from whencewise.errors import Misfit, NoName, NoNote, Twice
from whencewise.kinds import poured_groups, without_noughts
from whencewise.names import is_name, is_whole


def rank(value):
    """What a value is sorted by: whole numbers by size, behind them texts."""
    if is_whole(value):
        return (0, value, "")
    return (1, 0, value)


def rank_of_row(row):
    """What a row is sorted by."""
    return [rank(value) for value in row]


def table(kind, columns, pairs):
    """The table of some columns and of pairs (row, note) of a kind, in any order."""
    refuse_columns(columns)
    for row, note in pairs:
        if len(row) != len(columns):
            raise Misfit("a row has as many values as there are columns")
        if not kind.holds(note):
            raise NoNote("what a row bears is no note of the kind")
    return (tuple(columns), gathered(kind, pairs))


def gathered(kind, pairs):
    """The pairs of a table, of pairs (row, note) in any order, the notes of alike rows poured together."""
    groups = {}
    for row, note in pairs:
        groups.setdefault(row, []).append(note)
    return tuple(sorted(poured_groups(kind, groups), key=lambda pair: rank_of_row(pair[0])))


def refuse_columns(columns):
    """Refuses columns, from the left, for what is no name and for what was there ahead."""
    for at, column in enumerate(columns):
        if not is_name(column):
            raise NoName("a column is called by a name")
        refuse_twice(columns, at)


def refuse_twice(columns, at):
    """Refuses the column at a place where it was there ahead."""
    if columns[at] in columns[:at]:
        raise Twice(f"the column {columns[at]} was there ahead")


def turned(some, kind, way):
    """The table with each note replaced by what way tells of it, a note of the kind."""
    columns, pairs = some
    return (columns, tuple(without_noughts(kind, [(row, way(note)) for row, note in pairs])))


def note_of(some, kind, row):
    """The note of a row of a table, nought of the kind where it isn't there."""
    for other, note in some[1]:
        if other == row:
            return note
    return kind.nought()


def places_of(wanted, columns):
    """At which places of columns the wanted ones stand, in their order."""
    return [columns.index(column) for column in wanted]


def values_at(places, row):
    """The values at some places of a row, as a row."""
    return tuple([row[at] for at in places])
