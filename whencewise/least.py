"""Least: which least reasons; and the cuts of its notes."""

from whencewise.kinds import Single, is_name_set


class Least(Single):
    """Which least reasons: tuples of sets of names, none of which has all names of another one."""

    def nought(self):
        return ()

    def one(self):
        return ((),)

    def plus(self, a, b):
        return least_of(a + b)

    def times(self, a, b):
        bits = bits_of(a + b)
        one = masks_of(a, bits)
        other = masks_of(b, bits)
        return sets_of(least_masks([mask | beside for mask in one for beside in other]), bits)

    def holds(self, thing):
        if not isinstance(thing, tuple) or not all([is_name_set(some) for some in thing]):
            return False
        return thing == least_of(thing)

    def shown(self, a):
        if a == ():
            return "0"
        return " + ".join([shown_set(some) for some in a])


def shown_set(some):
    """The text of a set."""
    if some == ():
        return "1"
    return "*".join(some)


def cuts(note):
    """The cuts of a note of Least, as a note of Least."""
    bits = bits_of(note)
    found = [0]
    for some in note:
        found = met_by(found, [bits[name] for name in some])
    return sets_of(found, bits)


def met_by(found, some):
    """Of the cuts of some sets, as masks, those of the same sets and one more, told by its bits."""
    whole = sum(some)
    meeting = [mask for mask in found if mask & whole != 0]
    grown = [mask | bit for mask in found if mask & whole == 0 for bit in some]
    # No grown one lies within another: what they grew from has no bit of the set, and doesn't lie within another.
    return meeting + [mask for mask in grown if not has_one_within(mask, meeting)]


def least_of(sets):
    """The least of some sets, as a note of Least."""
    bits = bits_of(sets)
    return sets_of(least_masks(masks_of(sets, bits)), bits)


def least_masks(masks):
    """The least of a list of masks."""
    least = []
    # A mask within another one is the lesser number, so each comes behind all that lie within it.
    for mask in sorted(set(masks)):
        if not has_one_within(mask, least):
            least.append(mask)
    return least


def has_one_within(mask, masks):
    """Whether a mask has all bits of one of the masks."""
    for one in masks:
        if one & mask == one:
            return True
    return False


def bits_of(sets):
    """A dict from the names of some sets, sorted, to a bit each."""
    bits = {}
    bit = 1
    for name in sorted({member for some in sets for member in some}):
        bits[name] = bit
        bit = 2 * bit
    return bits


def masks_of(sets, bits):
    """The sets as a list of masks, whole numbers made of their names' bits."""
    return [sum([bits[name] for name in some]) for some in sets]


def sets_of(masks, bits):
    """The sets that some masks stand for, as a sorted tuple."""
    return tuple(sorted([tuple([name for name in bits if bits[name] & mask != 0]) for mask in masks]))
