"""Askings told apart: how far two of them ask the same, and the fewest facts that show where they don't."""

from whencewise.asking import ask
from whencewise.askings import columns_of, plain
from whencewise.errors import NotPlain, Unlike
from whencewise.hoards import named, shapes_of
from whencewise.reasons import Reasons


def compared(one, other, hoard):
    """The word for two plain askings over a hoard, and the fewest facts that show it; or a refusal."""
    if not plain(one) or not plain(other):
        raise NotPlain("there is a leave in one of the askings")
    shapes = shapes_of(hoard)
    if columns_of(one, shapes) != columns_of(other, shapes):
        raise Unlike("both askings have the same columns in the same order")
    store = named(hoard)
    mine = ask(Reasons(), one, store)[1]
    theirs = ask(Reasons(), other, store)[1]
    if mine == theirs:
        return ("every", ())
    # No bars are in a plain asking's reasons, so the least of a row's sets of facts are its note in Least; and the
    # notes of both are the same just where no set is alone.
    sets, beside = sets_by_row(mine), sets_by_row(theirs)
    alone = lone_sets(sets, beside) + lone_sets(beside, sets)
    if len(alone) > 0:
        return ("none", fewest(alone))
    return ("plain", fewest(unlike_terms(times_by_term(mine), times_by_term(theirs))))


def fewest(sets):
    """The set with the fewest names, of several as few the one that is sorted first."""
    return min(sets, key=lambda some: (len(some), some))


def set_of(facts):
    """The facts of a term, sorted, each once."""
    return tuple(sorted(set(facts)))


def sets_by_row(pairs):
    """A dict from rows to dicts whose keys are the sets of facts of the terms of their reasons."""
    return {row: {set_of(facts): True for facts, bars, times in reason} for row, reason in pairs}


def times_by_term(pairs):
    """A dict from tuples (row, facts of a term) to the times of that term."""
    return {(row, facts): times for row, reason in pairs for facts, bars, times in reason}


def unlike_terms(one, other):
    """The sets of facts of those terms that just one of both has, or with other times."""
    return [set_of(term[1]) for term in list(one) + list(other) if one.get(term) != other.get(term)]


def lone_sets(one, other):
    """The sets of facts of rows of the one within which no set of that row of the other lies."""
    found = []
    for row in one:
        beside = other.get(row, {})
        found.extend([some for some in one[row] if some not in beside and not has_set_within(some, beside)])
    return found


def has_set_within(some, sets):
    """Whether one of the sets lies within a set."""
    for inner in sets:
        if all([name in some for name in inner]):
            return True
    return False
