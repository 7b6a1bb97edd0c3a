"""Shares: fractions from 0 to 1, in lowest terms."""

from whencewise.errors import NoNote
from whencewise.names import is_whole


def share(top, bottom):
    """The share of two whole numbers, as a tuple (top, bottom) in lowest terms; NoNote of anything else."""
    # The words don't show what was handed in: Python refuses to write out very long numbers.
    if not is_whole(top) or not is_whole(bottom):
        raise NoNote("a share is made of two whole numbers")
    if bottom < 1:
        raise NoNote("the bottom of a share is from 1 on")
    if top < 0 or top > bottom:
        raise NoNote("the top of a share is from 0 to its bottom")
    divisor = greatest_divisor(top, bottom)
    return (top // divisor, bottom // divisor)


def greatest_divisor(one, other):
    """The greatest number that divides both, of two whole numbers from 0 on that aren't both 0."""
    while other > 0:
        one, other = other, one % other
    return one
