"""Heaps: notes of another kind by amounts."""

from whencewise.kinds import Kind, is_pair, is_rising, poured_groups, without_noughts
from whencewise.names import is_whole


class Heaps(Kind):
    """By amounts: tuples of tuples (number, note of the kind within), sorted by numbers."""

    def __init__(self, kind):
        self.kind = kind

    def nought(self):
        return ()

    def one(self):
        return ((0, self.kind.one()),)

    def plus(self, a, b):
        groups = {}
        for number, note in a + b:
            groups.setdefault(number, []).append(note)
        return heap_of(self.kind, groups)

    def times(self, a, b):
        groups = {}
        for number, note in a:
            for other, beside in b:
                groups.setdefault(number + other, []).append(self.kind.times(note, beside))
        return heap_of(self.kind, groups)

    def many(self, n, a):
        return tuple(without_noughts(self.kind, [(number, self.kind.many(n, note)) for number, note in a]))

    def holds(self, thing):
        if not isinstance(thing, tuple) or not all([self.holds_entry(entry) for entry in thing]):
            return False
        return is_rising([number for number, note in thing])

    def holds_entry(self, entry):
        """Whether a thing, of whatever sort, may stand in a heap."""
        if not is_pair(entry) or not is_whole(entry[0]):
            return False
        return self.kind.holds(entry[1]) and entry[1] != self.kind.nought()

    def shown(self, a):
        return "{" + ", ".join([f"{number}: {self.kind.shown(note)}" for number, note in a]) + "}"


def heap_of(kind, groups):
    """The heap of a dict from numbers to lists of notes of a kind."""
    return tuple(sorted(poured_groups(kind, groups), key=lambda entry: entry[0]))


def lifted(kind, way):
    """Of a kind and a function from notes of another one to its notes, a function from heaps to heaps."""
    def lift(heap):
        return tuple(without_noughts(kind, [(number, way(note)) for number, note in heap]))
    return lift


def sum_of(heap):
    """The sum of a heap of Counts: of its numbers, each as often as its note says."""
    return sum([number * count for number, count in heap])
