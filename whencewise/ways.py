"""Ways: how a row of an answer comes about from facts on; and the cuts of a row."""

from whencewise.asking import answered_by, ask, said
from whencewise.askings import askings_within, columns_of, plain
from whencewise.errors import NotPlain
from whencewise.hoards import facts_of, shapes_of, stocked
from whencewise.kinds import Truth
from whencewise.least import Least, cuts
from whencewise.tables import note_of, places_of, values_at


class Told:
    """An asking, its answer with all leaving out not looked at, and the same of the askings within it."""

    def __init__(self, asking, some, within):
        self.asking = asking
        self.some = some
        self.within = within


def ways(asking, hoard, row):
    """The ways of a row of an asking's answer over a hoard, as a sorted list; or a refusal."""
    columns_of(asking, shapes_of(hoard))
    top = told_of(asking, stocked(Truth(), hoard, {name: True for name in facts_of(hoard)}))
    wanted = among({row: True}, top)
    if len(wanted) == 0:
        return []
    return sorted(ways_by(top, hoard, wanted)[row])


def told_of(asking, store):
    """What an asking tells over a store of Truth, all leaving out not looked at."""
    if asking[0] == "table":
        return Told(asking, store[asking[1]], [])
    if asking[0] == "leave":
        return told_of(asking[1], store)
    within = [told_of(one, store) for one in askings_within(asking)]
    return Told(asking, answered_by(Truth(), asking, [one.some for one in within]), within)


def among(wanted, top):
    """Those of the wanted rows, a dict, that come about."""
    rows = dict(top.some[1])
    return {row: True for row in wanted if row in rows}


def ways_by(top, hoard, wanted):
    """A dict from the wanted rows, all of which come about, to lists of their ways."""
    word = top.asking[0]
    if word == "table":
        return ways_of_table(hoard[top.asking[1]][1], wanted)
    if word == "join":
        return ways_of_join(top, hoard, wanted)
    if word == "pour":
        return ways_of_pour(top, hoard, wanted)
    if word in ("keep", "total"):
        return ways_of_kept(top, hoard, wanted)
    return ways_by(top.within[0], hoard, wanted)


def ways_of_table(facts, wanted):
    """The ways of rows of a table."""
    found = {}
    for at, (row, name) in enumerate(facts):
        if row in wanted:
            found.setdefault(row, []).append(("fact", at, name))
    return found


def ways_of_join(top, hoard, wanted):
    """The ways of rows of a join."""
    one, other = top.within
    length = len(one.some[0])
    places = places_of(other.some[0], top.some[0])
    first = ways_by(one, hoard, {row[:length]: True for row in wanted})
    second = ways_by(other, hoard, {values_at(places, row): True for row in wanted})
    found = {}
    for row in wanted:
        found[row] = [("both", way, beside) for way in first[row[:length]] for beside in second[values_at(places, row)]]
    return found


def ways_of_pour(top, hoard, wanted):
    """The ways of rows of a pour."""
    found = {row: [] for row in wanted}
    for word, one in zip(("one", "other"), top.within):
        rows = among(wanted, one)
        within = ways_by(one, hoard, rows)
        for row in rows:
            found[row].extend([(word, way) for way in within[row]])
    return found


def ways_of_kept(top, hoard, wanted):
    """The ways of rows of a keep or a total."""
    one = top.within[0]
    places = places_of(top.some[0], one.some[0])
    become = {}
    for row, note in one.some[1]:
        if values_at(places, row) in wanted and counts_there(top.asking, one.some[0], row):
            become[row] = values_at(places, row)
    within = ways_by(one, hoard, become)
    found = {row: [] for row in wanted}
    for row in become:
        found[become[row]].extend(within[row])
    return found


def counts_there(asking, columns, row):
    """Whether a row of the asking within comes into a keep, as each does, or into a total."""
    return asking[0] == "keep" or said(row[columns.index(asking[2])]) > 0


def cuts_of(asking, hoard, row):
    """The cuts of a row of a plain asking's answer over a hoard, as a note of Least; or a refusal."""
    if not plain(asking):
        raise NotPlain("there is a leave in the asking")
    answer = ask(Least(), asking, stocked(Least(), hoard, {name: ((name,),) for name in facts_of(hoard)}))
    return cuts(note_of(answer, Least(), row))
