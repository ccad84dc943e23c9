"""Paces of rounds, and the rings of looks that show them."""

from math import gcd

from darkpace.errors import NoRing, NoSide
from darkpace.rounds import check_round
from darkpace.walks import FAST, SLOW, Walk, round_looks


def lowest(top, bottom):
    """The fraction in lowest terms."""
    shared = gcd(top, bottom)
    return (top // shared, bottom // shared)


def check_side(side):
    """Refuse what is no side."""
    if side not in (SLOW, FAST):
        raise NoSide(side)


def check_ring(hands, side, looks):
    """Refuse looks that are no ring of the round, of the side."""
    if not looks or len(looks) % len(hands) != 0:
        raise NoRing(None)
    known = round_looks(hands, side)
    for number, look in enumerate(looks):
        if look not in known[number % len(hands)]:
            raise NoRing(number)


def side_pace(hands, side):
    """The least pace of the round (slow) or the greatest one (fast); None where there is none."""
    walk = Walk(hands, side, 0)
    if walk.start is None:
        return None
    return lowest(walk.climb() // hands[0].length(), walk.period() // len(hands))


def paces(hands):
    """The least and the greatest pace of hands that fit, each None where there is none."""
    check_round(hands)
    return (side_pace(hands, SLOW), side_pace(hands, FAST))


def ring(hands, side):
    """A ring of the side that shows its pace; None where there is no such pace."""
    check_side(side)
    check_round(hands)
    walk = Walk(hands, side, 0)
    if walk.start is None:
        return None
    looks = walk.told_by[walk.start:]
    # The walk may come round amid a round, but a ring begins with the first hand.
    skipped = (-walk.start) % len(hands)
    return looks[skipped:] + looks[:skipped]


def ring_pace(hands, side, looks):
    """The pace that a ring of the side shows."""
    check_side(side)
    check_round(hands)
    check_ring(hands, side, looks)
    length = hands[0].length()
    turns = 0
    for number, look in enumerate(looks):
        # Behind the last look of a ring stands the first one: its number less 1 is the last one's.
        ahead = looks[number - 1][2] - look[1]
        turns = turns + (ahead // length if side == SLOW else -(-ahead // length))
    return lowest(turns, len(looks) // len(hands))
