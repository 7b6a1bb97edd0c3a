"""Shorter ways of asking: the steps by which an asking is settled, and an asking told once."""

from whencewise.askings import askings_within, columns_of, rebuilt
from whencewise.trials import called, columns_in


def step(asking, shapes):
    """The asking behind one step, None where there is none; or a refusal."""
    columns_of(asking, shapes)
    return stepped(asking, shapes)


def steps(asking, shapes):
    """The asking and each one a step behind the one ahead, the last one settled; or a refusal."""
    columns_of(asking, shapes)
    found = []
    behind = asking
    while behind is not None:
        found.append(behind)
        behind = stepped(behind, shapes)
    return found


def stepped(asking, shapes):
    """The asking, which isn't refused, behind a step at the first pick that has one, else None."""
    if asking[0] == "pick":
        behind = behind_pick(asking[1], asking[2], shapes)
        if behind is not None:
            return behind
    within = askings_within(asking)
    for at, one in enumerate(within):
        behind = stepped(one, shapes)
        if behind is not None:
            return rebuilt(asking, within[:at] + (behind,))
    return None


def behind_pick(asking, test, shapes):
    """What replaces the pick of an asking by a test, None where there is no step at it."""
    if test[0] == "both":
        return ("pick", ("pick", asking, test[1]), test[2])
    if test[0] == "not" and test[1][0] == "not":
        return ("pick", asking, test[1][1])
    if test[0] == "not" and test[1][0] == "either":
        return ("pick", asking, ("both", ("not", test[1][1]), ("not", test[1][2])))
    return sunk(asking, test, shapes)


def sunk(asking, test, shapes):
    """What an asking becomes where a test sinks into it, None where it can't."""
    word = asking[0]
    if word == "table":
        return None
    if word == "pick":
        within = sunk(asking[1], test, shapes)
        if within is None:
            return None
        return ("pick", within, asking[2])
    if word == "join":
        return sunk_into_join(asking, test, shapes)
    if word == "pour":
        return ("pour", ("pick", asking[1], test), ("pick", asking[2], test))
    if word == "call":
        names = dict(zip(asking[2], columns_of(asking[1], shapes)))
        return ("call", ("pick", asking[1], called(test, names)), asking[2])
    # Of a keep, a total and a leave alike: what is left out is left out of the rows that pass, too.
    return rebuilt(asking, (("pick", asking[1], test),))


def sunk_into_join(asking, test, shapes):
    """What a join becomes where a test sinks into it, None where it can't."""
    one, other = asking[1], asking[2]
    if has_all(columns_of(one, shapes), test):
        return ("join", ("pick", one, test), other)
    if has_all(columns_of(other, shapes), test):
        return ("join", one, ("pick", other, test))
    return None


def has_all(columns, test):
    """Whether all columns of a test are among the columns."""
    return all([column in columns for column in columns_in(test)])


def once(asking):
    """The asking with each pour of twice the same replaced by what it pours, from within outwards."""
    within = tuple([once(one) for one in askings_within(asking)])
    if asking[0] == "pour" and within[0] == within[1]:
        return within[0]
    return rebuilt(asking, within)
