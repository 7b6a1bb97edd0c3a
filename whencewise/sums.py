"""Sums by groups: tables whose rows bear heaps."""

from whencewise.askings import totalled
from whencewise.heaps import Heaps
from whencewise.names import is_whole
from whencewise.tables import gathered, places_of, values_at


def heaped(kind, some, column, columns):
    """A table of a kind heaped by a column and by columns: a table of Heaps(kind), or a refusal."""
    within, pairs = some
    totalled(column, columns, within)
    at = within.index(column)
    places = places_of(columns, within)
    heaps = [(values_at(places, row), ((number_in(row[at]), note),)) for row, note in pairs]
    return (columns, gathered(Heaps(kind), heaps))


def number_in(value):
    """The number that a value adds to a heap: 0 where it is a text."""
    if is_whole(value):
        return value
    return 0
