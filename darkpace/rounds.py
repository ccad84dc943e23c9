"""Rounds: hands in the dark, used one behind the other and again from the first."""

from darkpace.errors import NoRound, NoUses
from darkpace.walks import FAST, SLOW, Walk


def check_round(hands):
    """Refuse what is no round: no hands, or hands of several lengths."""
    if not hands:
        raise NoRound(None)
    length = hands[0].length()
    for number, hand in enumerate(hands):
        if hand.length() != length:
            raise NoRound(number)


def place_behind(hands, side, x, uses):
    """The place behind so many uses that the looks of the side tell, or None."""
    check_round(hands)
    if uses < 0:
        raise NoUses(uses)
    return Walk(hands, side, x).behind(uses)


def least_behind(hands, x, uses):
    """The least place to which hands that fit lead x by so many uses; None where there is none."""
    return place_behind(hands, SLOW, x, uses)


def greatest_behind(hands, x, uses):
    """The greatest place to which hands that fit lead x by so many uses; None where there is none."""
    return place_behind(hands, FAST, x, uses)


def fewest_uses(hands, x, y):
    """The least number of uses by which some hands that fit lead x to y or farther, or None."""
    check_round(hands)
    walk = Walk(hands, FAST, x)
    uses = walk.reach(y)
    if uses is None and walk.start is None:
        # The walk breaks off before a hand without a greatest place: its use leads as far as one likes.
        return len(walk.places)
    return uses


def most_uses(hands, x, y):
    """The least number of uses by which all hands that fit lead x to y or farther, or None."""
    check_round(hands)
    return Walk(hands, SLOW, x).reach(y)
