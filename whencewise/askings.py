"""Askings: which columns an answer has, and which askings are plain."""

from whencewise.errors import NoColumn, NoTable, Unlike
from whencewise.tables import refuse_twice
from whencewise.trials import columns_in


def askings_within(asking):
    """The askings that stand straight within an asking, ONE ahead of OTHER."""
    if asking[0] == "table":
        return ()
    if asking[0] in ("join", "pour", "leave"):
        return (asking[1], asking[2])
    return (asking[1],)


def rebuilt(asking, within):
    """The asking with the first ones straight within it, or all, replaced by those of a tuple."""
    return asking[:1] + within + asking[1 + len(within):]


def plain(asking):
    """Whether there is no leave in an asking."""
    if asking[0] == "leave":
        return False
    for one in askings_within(asking):
        if not plain(one):
            return False
    return True


def refuse_missing(column, columns):
    """Refuses a column that isn't among the columns."""
    if column not in columns:
        raise NoColumn(f"there is no column {column}")


def columns_of_pick(asking, within):
    """The columns of a pick, by those of the asking within."""
    for column in columns_in(asking[2]):
        refuse_missing(column, within[0])
    return within[0]


def kept(columns, within):
    """The columns that are kept, by those that are there."""
    for at, column in enumerate(columns):
        refuse_missing(column, within)
        refuse_twice(columns, at)
    return columns


def columns_of_keep(asking, within):
    """The columns of a keep, by those of the asking within."""
    return kept(asking[2], within[0])


def totalled(column, columns, within):
    """The columns of a total, by its COLUMN, its columns and those that are there."""
    refuse_missing(column, within)
    return kept(columns, within)


def columns_of_total(asking, within):
    """The columns of a total, by those of the asking within."""
    return totalled(asking[2], asking[3], within[0])


def columns_of_call(asking, within):
    """The columns of a call, by those of the asking within."""
    columns = asking[2]
    if len(columns) != len(within[0]):
        raise Unlike("a call has as many columns as the asking within")
    for at in range(len(columns)):
        refuse_twice(columns, at)
    return columns


def columns_of_join(asking, within):
    """The columns of a join, by those of ONE and OTHER."""
    one, other = within
    return one + tuple([column for column in other if column not in one])


def columns_of_pour(asking, within):
    """The columns of a pour, by those of ONE and OTHER."""
    one, other = within
    if one != other:
        raise Unlike("both askings of a pour have the same columns in the same order")
    return one


def columns_of_leave(asking, within):
    """The columns of a leave, by those of ONE and OTHER."""
    one, other = within
    for column in other:
        if column not in one:
            raise Unlike(f"the column {column} of what is left out isn't there")
    return one


DEEDS = {
    "pick": columns_of_pick,
    "keep": columns_of_keep,
    "call": columns_of_call,
    "join": columns_of_join,
    "pour": columns_of_pour,
    "total": columns_of_total,
    "leave": columns_of_leave,
}


def columns_of(asking, shapes):
    """The columns of an asking, or a refusal; shapes is a dict from names of tables to their columns."""
    if asking[0] == "table":
        return columns_of_table(asking[1], shapes)
    within = [columns_of(one, shapes) for one in askings_within(asking)]
    deed = DEEDS[asking[0]]
    return deed(asking, within)


def columns_of_table(name, shapes):
    """The columns of a table."""
    if name not in shapes:
        raise NoTable(f"there is no table {name}")
    return shapes[name]
