"""Parts and tests: what a row is tried by."""

from whencewise.tables import rank


def passes(test, columns, row):
    """Whether a row, under these columns, passes a test."""
    word = test[0]
    if word == "not":
        return not passes(test[1], columns, row)
    if word == "both":
        return passes(test[1], columns, row) and passes(test[2], columns, row)
    if word == "either":
        return passes(test[1], columns, row) or passes(test[2], columns, row)
    one = value_of(test[1], columns, row)
    other = value_of(test[2], columns, row)
    if word == "same":
        return one == other
    return rank(one) < rank(other)


def value_of(part, columns, row):
    """The value of a part in a row."""
    if part[0] == "of":
        return row[columns.index(part[1])]
    return part[1]


def columns_in(test):
    """The columns of a test, from the left, each as often as it stands there."""
    word = test[0]
    if word == "not":
        return columns_in(test[1])
    if word in ("both", "either"):
        return columns_in(test[1]) + columns_in(test[2])
    return [part[1] for part in test[1:] if part[0] == "of"]


def called(test, names):
    """The test with each column replaced by what it is called in a dict of names."""
    word = test[0]
    if word == "not":
        return (word, called(test[1], names))
    if word in ("both", "either"):
        return (word, called(test[1], names), called(test[2], names))
    return (word, called_part(test[1], names), called_part(test[2], names))


def called_part(part, names):
    """The part, its column replaced where it has one."""
    if part[0] == "of":
        return ("of", names[part[1]])
    return part
