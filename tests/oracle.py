"""What the tests hold the program against: all hands of a small dial, gone through one by one.

A hand is a tuple of the places to which it leads 0 to L - 1. Nothing here uses the package's own reckoning.
"""

from fractions import Fraction
from itertools import combinations_with_replacement, product

from darkpace.darks import Dark
from darkpace.errors import Clash

WORDS = ("at", "from", "upto")
SIDES = {"slow": ("at", "from"), "fast": ("at", "upto")}


def all_hands(length, low, high):
    """Every hand that leads 0 to a place from low to high."""
    found = []
    for first in range(low, high + 1):
        for rest in combinations_with_replacement(range(first, first + length + 1), length - 1):
            found.append((first,) + rest)
    return found


def lead(hand, x):
    turns, place = divmod(x, len(hand))
    return hand[place] + turns * len(hand)


def is_as(hand, look):
    word, x, y = look
    place = lead(hand, x)
    return {"at": place == y, "from": place >= y, "upto": place <= y}[word]


def fitting(length, looks, reach):
    """The hands that fit the looks, of all that lead 0 no farther than reach to either side."""
    return [hand for hand in all_hands(length, -reach, reach) if all(is_as(hand, look) for look in looks)]


def home(length, look):
    word, x, y = look
    return (word, x % length, y - (x - x % length))


def back_of(hand):
    """The hand led back, step by step."""
    length = len(hand)
    told = []
    for y in range(length):
        x = -(abs(hand[0]) + 2) * length
        while lead(hand, x) < y:
            x += 1
        told.append(x)
    return tuple(told)


def told_hand(length, steps):
    """The hand that leads z to the greatest y + kL with x + kL not above z, k by k."""
    turns = 4 + max(abs(x) + abs(y) for x, y in steps) // length
    return tuple(
        max(y + k * length for x, y in steps for k in range(-turns, turns) if x + k * length <= z)
        for z in range(length)
    )


def homes_of(hand, p, q, start, stop):
    """The places from start to stop - 1 that q uses lead just p turns on."""
    return [x for x in range(start, stop) if places((hand,), x, q)[-1] == x + p * len(hand)]


def gates_of(hand):
    """The gates, by the homes of the hand and those of the hand led back."""
    length, fraction = len(hand), pace((hand,))
    p, q = fraction.numerator, fraction.denominator
    begins = homes_of(back_of(hand), -p, q, -length, length)
    return [(max(a for a in begins if a <= h), h) for h in homes_of(hand, p, q, 0, length)]


def nearest(fraction, bottom):
    """The neighbours of a fraction, of all with bottoms to the told one, and those that are not the fraction itself."""
    lower = max(Fraction((fraction * b).__floor__(), b) for b in range(1, bottom + 1))
    upper = min(Fraction((fraction * b).__ceil__(), b) for b in range(1, bottom + 1))
    below = max(Fraction((fraction * b).__ceil__() - 1, b) for b in range(1, bottom + 1))
    above = min(Fraction((fraction * b).__floor__() + 1, b) for b in range(1, bottom + 1))
    return [pair(told) for told in (lower, upper, below, above)]


def bounds(near, far):
    """(least, greatest) of the far values, None where the far hands go farther than the near ones.

    The near values come of some hands that fit, the far ones of these and of hands some turns beyond.
    """
    low = min(far) if min(far) == min(near) else None
    high = max(far) if max(far) == max(near) else None
    return low, high


def places(hands, x, uses):
    """The places of a pointer behind 0 to so many uses."""
    told = [x]
    for number in range(uses):
        told.append(lead(hands[number % len(hands)], told[-1]))
    return told


def pace(hands):
    length, x, rounds, seen = len(hands[0]), 0, 0, {}
    while x % length not in seen:
        seen[x % length] = (x, rounds)
        x = places(hands, x, len(hands))[-1]
        rounds += 1
    before, then = seen[x % length]
    return Fraction((x - before) // length, rounds - then)


def pair(fraction):
    return None if fraction is None else (fraction.numerator, fraction.denominator)


def pace_of_ring(length, side, looks, hands):
    """The pace of a ring, added up as the document has it."""
    turns = 0
    for number, look in enumerate(looks):
        gap = Fraction(look[2] - looks[(number + 1) % len(looks)][1], length)
        turns += gap.__floor__() if side == "slow" else gap.__ceil__()
    return Fraction(turns, len(looks) // hands)


def looked_at(dark, side):
    """At how many places the Dark was looked at, by looks of the side."""
    return len({x for word, x, _ in dark.looks() if word in SIDES[side]})


def all_rings(hands, side, rounds):
    known = [[look for look in dark.looks() if look[0] in SIDES[side]] for dark in hands]
    return [list(looks) for looks in product(*(known * rounds))]


def dark_of(length, *looks):
    dark = Dark(length)
    for look in looks:
        dark.hear(*look)
    return dark


def chance_look(chance, length):
    x = chance.randint(-2 * length, 3 * length)
    return (chance.choice(WORDS), x, x + chance.randint(-2 * length, 2 * length))


def chance_dark(chance, length, many):
    """A Dark that was told up to so many looks; those that clash are left out."""
    dark = Dark(length)
    for _ in range(many):
        try:
            dark.hear(*chance_look(chance, length))
        except Clash:
            pass
    return dark


class Refusing:
    """For test cases: a call that is refused, with the value that the refusal keeps."""

    def refused(self, kind, what, call, *values):
        with self.assertRaises(kind) as caught:
            call(*values)
        self.assertEqual(caught.exception.what, what)


class Chained:
    """A told function of least places as a list of (x, y), chained with itself by squaring."""

    def __init__(self, length, steps):
        self.length = length
        self.steps = steps

    def lead(self, x):
        return max(y + (x - start) // self.length * self.length for start, y in self.steps)

    def then(self, other):
        return Chained(self.length, [(x, other.lead(y)) for x, y in self.steps])

    def times(self, many):
        """This function many times over, from 1 on."""
        if many == 1:
            return self
        half = self.times(many // 2)
        twice = half.then(half)
        return twice.then(self) if many % 2 else twice


def chained_behind(hands, side, x, uses):
    """The place behind uses by squaring; the fast side is the slow one in a mirror."""
    sign = 1 if side == "slow" else -1
    told = [
        Chained(dark.length(), [(sign * a, sign * b) for word, a, b in dark.looks() if word in SIDES[side]])
        for dark in hands
    ]
    place = sign * x
    rounds, rest = divmod(uses, len(hands))
    if rounds:
        whole = told[0]
        for function in told[1:]:
            whole = whole.then(function)
        place = whole.times(rounds).lead(place)
    for function in told[:rest]:
        place = function.lead(place)
    return sign * place
