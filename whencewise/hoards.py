"""Hoards: tables of facts; and what is left of an answer when facts are taken out."""

from whencewise.reasons import Reasons, fact, facts_in, valued
from whencewise.tables import table, turned


def stocked(kind, hoard, worths):
    """The store of a hoard in a kind, by worths, a dict from facts to notes; nought for a fact without a worth."""
    nought = kind.nought()
    store = {}
    for name in hoard:
        columns, facts = hoard[name]
        store[name] = table(kind, columns, [(row, worths.get(one, nought)) for row, one in facts])
    return store


def named(hoard):
    """The store of a hoard in reasons, each fact worth its own reason."""
    return stocked(Reasons(), hoard, {name: fact(name) for name in facts_of(hoard)})


def without(hoard, names):
    """The hoard without the facts that a list names."""
    gone = set(names)
    left = {}
    for name in hoard:
        columns, facts = hoard[name]
        left[name] = (columns, tuple([pair for pair in facts if pair[1] not in gone]))
    return left


def facts_of(hoard):
    """The facts of a hoard, as a sorted list, each once."""
    return sorted({one for name in hoard for row, one in hoard[name][1]})


def shapes_of(hoard):
    """A dict from the names of a hoard's tables to their columns."""
    return {name: hoard[name][0] for name in hoard}


def left_of(some, names):
    """What is left of a table in reasons when the facts that a list names are taken out."""
    gone = set(names)
    worths = {}
    for row, reason in some[1]:
        for name in facts_in(reason):
            if name not in gone:
                worths[name] = fact(name)
    return turned(some, Reasons(), valued(Reasons(), worths))


def fallen(some, names):
    """The rows of a table in reasons that fall when the facts that a list names are taken out, in its order."""
    left = {row: True for row, reason in left_of(some, names)[1]}
    return [row for row, reason in some[1] if row not in left]
