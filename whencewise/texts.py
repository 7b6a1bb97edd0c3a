"""Texts: values, tests, askings and tables written, and the first three read."""

from whencewise.asking import ask
from whencewise.errors import NoText
from whencewise.names import FIGURES, is_name, is_whole

LONGEST_NUMBER = 60
MOST_OPEN = 30


def show_value(value):
    """The text of a value."""
    if is_whole(value):
        return str(value)
    return "'" + value


def read_value(text):
    """The value that a text writes; NoText of anything else."""
    if not isinstance(text, str):
        raise NoText("a value is read from a text")
    if text.startswith("'") and is_name(text[1:]):
        return text[1:]
    if not is_number(text):
        raise NoText("the text writes no value")
    return int(text)


def is_number(text):
    """Whether a text writes a whole number."""
    if text == "0":
        return True
    figures = text.removeprefix("-")
    if len(figures) < 1 or len(figures) > LONGEST_NUMBER or figures[0] == "0":
        return False
    # Sign by sign, as int also reads blanks, lines below and figures of other scripts.
    return all([sign in FIGURES for sign in figures])


def show(asking):
    """The text of an asking."""
    word = asking[0]
    if word == "table":
        return asking[1]
    within = show(asking[1])
    if word == "pick":
        return f"(pick {within} {show_test(asking[2])})"
    if word in ("join", "pour", "leave"):
        return f"({word} {within} {show(asking[2])})"
    if word == "total":
        return in_brackets([word, within, asking[2]] + list(asking[3]))
    return in_brackets([word, within] + list(asking[2]))


def in_brackets(words):
    """Some texts in brackets, one blank between."""
    return "(" + " ".join(words) + ")"


def show_test(test):
    """The text of a test."""
    word = test[0]
    if word == "not":
        return f"(not {show_test(test[1])})"
    if word in ("both", "either"):
        return f"({word} {show_test(test[1])} {show_test(test[2])})"
    return f"({word} {show_part(test[1])} {show_part(test[2])})"


def show_part(part):
    """The text of a part."""
    if part[0] == "of":
        return "." + part[1]
    return show_value(part[1])


def read(text):
    """The asking that a text writes; NoText of anything else."""
    if not isinstance(text, str):
        raise NoText("an asking is read from a text")
    return read_asking(tree_of(words_of(text)))


def words_of(text):
    """The brackets and words of a text."""
    # Parted by the blank alone: a tab or a line end stays in its word, which no name and no value has.
    parted = text.replace("(", " ( ").replace(")", " ) ").split(" ")
    return [word for word in parted if word != ""]


def tree_of(words):
    """What stands in brackets as a list, brackets within it as lists in turn, and a word as itself."""
    opened = [[]]
    for word in words:
        if word == "(":
            opened.append([])
        elif word == ")":
            done = opened.pop()
            if len(opened) == 0:
                raise NoText("a bracket is closed that isn't open")
            opened[-1].append(done)
        else:
            opened[-1].append(word)
        if len(opened) > MOST_OPEN + 1:
            raise NoText("too many brackets are open at once")
    if len(opened) != 1 or len(opened[0]) != 1:
        raise NoText("the text isn't one word or one thing in brackets")
    return opened[0][0]


def read_asking(tree):
    """The asking that a tree writes."""
    if not isinstance(tree, list):
        return ("table", read_name(tree))
    word = head_of(tree)
    if word in ("join", "pour", "leave"):
        refuse_length(tree, 3)
        return (word, read_asking(tree[1]), read_asking(tree[2]))
    if word == "pick":
        refuse_length(tree, 3)
        return (word, read_asking(tree[1]), read_test(tree[2]))
    if word in ("keep", "call") and len(tree) > 1:
        return (word, read_asking(tree[1]), read_names(tree[2:]))
    if word == "total" and len(tree) > 2:
        return (word, read_asking(tree[1]), read_name(tree[2]), read_names(tree[3:]))
    raise NoText("what stands in brackets is no asking")


def head_of(tree):
    """The first thing in brackets, an empty text where there is none."""
    if len(tree) == 0:
        return ""
    return tree[0]


def refuse_length(tree, length):
    """Refuses brackets with another number of things in them."""
    if len(tree) != length:
        raise NoText("there are too few or too many things in brackets")


def read_names(trees):
    """The names that some trees write, as a tuple."""
    return tuple([read_name(tree) for tree in trees])


def read_name(tree):
    """The name that a tree writes."""
    if not is_name(tree):
        raise NoText("there is no name where there should be one")
    return tree


def read_test(tree):
    """The test that a tree writes."""
    if not isinstance(tree, list):
        raise NoText("a test stands in brackets")
    word = head_of(tree)
    if word == "not":
        refuse_length(tree, 2)
        return (word, read_test(tree[1]))
    refuse_length(tree, 3)
    if word in ("both", "either"):
        return (word, read_test(tree[1]), read_test(tree[2]))
    if word in ("same", "under"):
        return (word, read_part(tree[1]), read_part(tree[2]))
    raise NoText("what stands in brackets is no test")


def read_part(tree):
    """The part that a tree writes."""
    if not isinstance(tree, list) and tree.startswith("."):
        return ("of", read_name(tree[1:]))
    return ("just", read_value(tree))


def told(kind, some):
    """The text of a table of a kind."""
    if len(some[1]) == 0:
        return "none"
    return "; ".join([told_row(kind, row, note) for row, note in some[1]])


def told_row(kind, row, note):
    """The text of a row and its note."""
    return "".join([show_value(value) + " " for value in row]) + ": " + kind.shown(note)


def answer(kind, text, store):
    """The text of a store's answer to the asking that a text writes; or a refusal."""
    return told(kind, ask(kind, read(text), store))
