"""What a kind of notes is, the kinds of plain notes, and pairs of kinds."""

from whencewise.errors import NoKind
from whencewise.names import is_name, is_whole
from whencewise.shares import greatest_divisor, share


class Kind:
    """The base of all kinds; each has nought, one, plus, times, lack, many, holds and shown."""

    def lack(self, a):
        """One where a is nought, else nought."""
        if a == self.nought():
            return self.one()
        return self.nought()


class Single(Kind):
    """The base of those kinds in which a note poured together with itself is itself."""

    def many(self, n, a):
        """The note a poured together n times, n from 0 on."""
        if n == 0:
            return self.nought()
        return a


class Counts(Kind):
    """How many: the whole numbers from 0 on."""

    def nought(self):
        return 0

    def one(self):
        return 1

    def plus(self, a, b):
        return a + b

    def times(self, a, b):
        return a * b

    def many(self, n, a):
        return n * a

    def holds(self, thing):
        return is_whole(thing) and thing >= 0

    def shown(self, a):
        return str(a)


class Truth(Single):
    """Whether: False and True."""

    def nought(self):
        return False

    def one(self):
        return True

    def plus(self, a, b):
        return a or b

    def times(self, a, b):
        return a and b

    def holds(self, thing):
        return isinstance(thing, bool)

    def shown(self, a):
        if a:
            return "yes"
        return "no"


class Costs(Single):
    """At what cost: None, which is never, and all whole numbers."""

    def nought(self):
        return None

    def one(self):
        return 0

    def plus(self, a, b):
        if a is None:
            return b
        if b is None:
            return a
        return min(a, b)

    def times(self, a, b):
        if a is None or b is None:
            return None
        return a + b

    def holds(self, thing):
        return thing is None or is_whole(thing)

    def shown(self, a):
        if a is None:
            return "never"
        return str(a)


class Sure(Single):
    """How sure: shares."""

    def nought(self):
        return (0, 1)

    def one(self):
        return (1, 1)

    def plus(self, a, b):
        if a[0] * b[1] < b[0] * a[1]:
            return b
        return a

    def times(self, a, b):
        return share(a[0] * b[0], a[1] * b[1])

    def holds(self, thing):
        if not is_pair(thing) or not is_whole(thing[0]) or not is_whole(thing[1]):
            return False
        top, bottom = thing
        return bottom >= 1 and 0 <= top <= bottom and greatest_divisor(top, bottom) == 1

    def shown(self, a):
        return f"{a[0]}/{a[1]}"


class Voices(Single):
    """On whose word: None, which is never, and sorted tuples of unlike names."""

    def nought(self):
        return None

    def one(self):
        return ()

    def plus(self, a, b):
        if a is None:
            return b
        if b is None:
            return a
        return names_of_both(a, b)

    def times(self, a, b):
        if a is None or b is None:
            return None
        return names_of_both(a, b)

    def holds(self, thing):
        return thing is None or is_name_set(thing)

    def shown(self, a):
        if a is None:
            return "never"
        if a == ():
            return "nobody"
        return "+".join(a)


class Wheel(Kind):
    """By rests: the whole numbers from 0 to size - 1."""

    def __init__(self, size):
        if not is_whole(size) or size < 2:
            raise NoKind("the size of a wheel is a whole number from 2 on")
        self.size = size

    def nought(self):
        return 0

    def one(self):
        return 1

    def plus(self, a, b):
        return (a + b) % self.size

    def times(self, a, b):
        return (a * b) % self.size

    def many(self, n, a):
        return (n * a) % self.size

    def holds(self, thing):
        return is_whole(thing) and 0 <= thing < self.size

    def shown(self, a):
        return str(a)


class Pair(Kind):
    """Of two kinds: tuples of a note of each; all goes place by place."""

    def __init__(self, first, second):
        self.first = first
        self.second = second

    def nought(self):
        return (self.first.nought(), self.second.nought())

    def one(self):
        return (self.first.one(), self.second.one())

    def plus(self, a, b):
        return (self.first.plus(a[0], b[0]), self.second.plus(a[1], b[1]))

    def times(self, a, b):
        return (self.first.times(a[0], b[0]), self.second.times(a[1], b[1]))

    def lack(self, a):
        return (self.first.lack(a[0]), self.second.lack(a[1]))

    def many(self, n, a):
        return (self.first.many(n, a[0]), self.second.many(n, a[1]))

    def holds(self, thing):
        return is_pair(thing) and self.first.holds(thing[0]) and self.second.holds(thing[1])

    def shown(self, a):
        return f"[{self.first.shown(a[0])}, {self.second.shown(a[1])}]"


def is_pair(thing):
    """Whether a thing, of whatever sort, is a tuple of two."""
    return isinstance(thing, tuple) and len(thing) == 2


def is_name_set(thing):
    """Whether a thing, of whatever sort, is a sorted tuple of unlike names."""
    # That all are names goes first: not all things can be compared.
    if not isinstance(thing, tuple) or not all([is_name(name) for name in thing]):
        return False
    return is_rising(thing)


def is_rising(things):
    """Whether of some things that can be compared each is less than the next one."""
    return all([things[at] < things[at + 1] for at in range(len(things) - 1)])


def names_of_both(one, other):
    """The names of two tuples of names, sorted, each once."""
    return tuple(sorted(set(one) | set(other)))


def poured(kind, notes):
    """The sum of a list of notes of a kind."""
    if len(notes) == 0:
        return kind.nought()
    sums = list(notes)
    # Two by two, not one by one: a long note would else be walked again for each note behind it.
    while len(sums) > 1:
        halves = [kind.plus(sums[at], sums[at + 1]) for at in range(0, len(sums) - 1, 2)]
        if len(sums) % 2 == 1:
            halves.append(sums[-1])
        sums = halves
    return sums[0]


def poured_groups(kind, groups):
    """Of a dict from keys to lists of notes, a list of tuples (key, sum of its notes), without those of nought."""
    sums = [(key, poured(kind, groups[key])) for key in groups]
    return without_noughts(kind, sums)


def without_noughts(kind, pairs):
    """Those of a list of tuples (thing, note) whose note isn't nought of the kind."""
    nought = kind.nought()
    return [(thing, note) for thing, note in pairs if note != nought]
