"""Reasons: a kind whose notes tell all that a row hangs on, and what they are worth in other kinds."""

from whencewise.errors import NoName
from whencewise.kinds import Kind, is_rising, poured
from whencewise.names import is_name, is_whole


class Reasons(Kind):
    """For which reasons: sorted tuples of terms (facts, bars, times)."""

    def nought(self):
        return ()

    def one(self):
        return (((), (), 1),)

    def plus(self, a, b):
        return reason_of(a + b)

    def times(self, a, b):
        return reason_of([term_of_both(one, other) for one in a for other in b])

    def lack(self, a):
        if a == ():
            return self.one()
        return (((), (a,), 1),)

    def many(self, n, a):
        if n == 0:
            return ()
        return tuple([(facts, bars, n * times) for facts, bars, times in a])

    def holds(self, thing):
        return is_reason(thing)

    def shown(self, a):
        return shown_reason(a)


def fact(name):
    """The reason of a fact; NoName of what is no name."""
    if not is_name(name):
        raise NoName("a fact is called by a name")
    return (((name,), (), 1),)


def reason_of(terms):
    """The reason that has all these terms, of those alike in facts and bars one with all their times."""
    found = []
    # Alike ones are neighbours once they are sorted; a dict would need keys as deep as bars may go.
    for facts, bars, times in sorted(terms):
        if len(found) > 0 and found[-1][0] == facts and found[-1][1] == bars:
            found[-1] = (facts, bars, found[-1][2] + times)
        else:
            found.append((facts, bars, times))
    return tuple(found)


def term_of_both(one, other):
    """The product of two terms."""
    return (tuple(sorted(one[0] + other[0])), bars_of_both(one[1], other[1]), one[2] * other[2])


def bars_of_both(one, other):
    """The bars of two tuples of bars, sorted, each once."""
    found = []
    for bar in sorted(one + other):
        if len(found) == 0 or found[-1] != bar:
            found.append(bar)
    return tuple(found)


def is_reason(thing):
    """Whether a thing, of whatever sort, is a reason."""
    if not isinstance(thing, tuple):
        return False
    for term in thing:
        if not is_term(term):
            return False
    return is_rising([(facts, bars) for facts, bars, times in thing])


def is_term(thing):
    """Whether a thing, of whatever sort, is a term of a reason."""
    if not isinstance(thing, tuple) or len(thing) != 3:
        return False
    facts, bars, times = thing
    if not is_whole(times) or times < 1:
        return False
    return is_facts(facts) and is_bars(bars)


def is_facts(thing):
    """Whether a thing, of whatever sort, is a sorted tuple of names, alike ones too."""
    # That all are names goes first: not all things can be compared.
    if not isinstance(thing, tuple) or not all([is_name(name) for name in thing]):
        return False
    return list(thing) == sorted(thing)


def is_bars(thing):
    """Whether a thing, of whatever sort, is a sorted tuple of unlike reasons that aren't nought."""
    if not isinstance(thing, tuple):
        return False
    for bar in thing:
        if not is_reason(bar) or bar == ():
            return False
    return is_rising(thing)


def shown_reason(reason):
    """The text of a reason."""
    if reason == ():
        return "0"
    texts = []
    for facts, bars, times in reason:
        factors = list(facts)
        for bar in bars:
            factors.append(f"!({shown_reason(bar)})")
        if times != 1 or len(factors) == 0:
            factors.insert(0, str(times))
        texts.append("*".join(factors))
    return " + ".join(texts)


def valued(kind, worths):
    """Of a kind and a dict from names to its notes, a function from reasons to their worth."""
    kept = dict(worths)

    def worth(reason):
        return worth_of(kind, kept, reason)
    return worth


def worth_of(kind, worths, reason):
    """What a reason is worth in a kind."""
    notes = []
    for facts, bars, times in reason:
        note = kind.one()
        for name in facts:
            note = kind.times(note, worths.get(name, kind.nought()))
        for bar in bars:
            note = kind.times(note, kind.lack(worth_of(kind, worths, bar)))
        notes.append(kind.many(times, note))
    return poured(kind, notes)


def facts_in(reason):
    """The facts in a reason, those in its bars too, as a sorted list, each once."""
    names = set()
    waiting = [reason]
    while len(waiting) > 0:
        terms = waiting.pop()
        for facts, bars, times in terms:
            waiting.extend(bars)
            for name in facts:
                names.add(name)
    return sorted(names)
