"""What looks are worth: the neighbours of a fraction, and a pointer that is followed."""

from darkpace.darks import Dark
from darkpace.errors import NoBottom
from darkpace.paces import paces


def neighbours(fraction, bottom):
    """The fractions with bottoms to the told one that are nearest: not above, and not below."""
    if bottom < 1:
        raise NoBottom(bottom)
    top, own_bottom = fraction
    if own_bottom <= bottom:
        return ((top, own_bottom), (top, own_bottom))
    lower = (top // own_bottom, 1)
    upper = (lower[0] + 1, 1)
    # Between the two, the fraction of the least bottom has their tops added above their bottoms added.
    while lower[1] + upper[1] <= bottom:
        lower = nearer(lower, upper, fraction, bottom)
        upper = nearer(upper, lower, fraction, bottom)
    return (lower, upper)


def nearer(mover, other, fraction, bottom):
    """The mover, with the other one added as often as it stays on its side of the fraction and within the bottom."""
    often = distance(mover, fraction) // distance(other, fraction)
    often = min(often, (bottom - mover[1]) // other[1])
    return (mover[0] + often * other[0], mover[1] + often * other[1])


def distance(one, fraction):
    """How far the two fractions are apart, times both their bottoms."""
    return abs(fraction[0] * one[1] - one[0] * fraction[1])


def followed(length, first, leads):
    """The paces (slow, fast) by the leads of a pointer alone."""
    dark = Dark(length)
    place = first
    for lead in leads:
        dark.hear("at", place, lead)
        place = lead
    return paces([dark])
