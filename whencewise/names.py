"""What a whole number is, and what a name is."""

LETTERS = "abcdefghijklmnopqrstuvwxyz"
FIGURES = "0123456789"
LONGEST = 40


def is_whole(thing):
    """True of an int that is neither True nor False, False of anything else."""
    return isinstance(thing, int) and not isinstance(thing, bool)


def is_name(thing):
    """True of a name, False of anything else."""
    if not isinstance(thing, str):
        return False
    # The length goes first: an empty text has no first sign to look at.
    if len(thing) < 1 or len(thing) > LONGEST:
        return False
    return thing[0] in LETTERS and all([is_name_sign(sign) for sign in thing])


def is_name_sign(sign):
    """Whether one sign may stand in a name, behind its first place."""
    # Written out, as isalpha and isdigit also take signs beyond a to z and 0 to 9.
    return sign in LETTERS or sign in FIGURES
