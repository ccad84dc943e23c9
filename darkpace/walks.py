"""What the looks of one side tell of a pointer: where it is led, and its walk, use by use.

The side slow tells the least places, by looks at and from; the side fast tells
the greatest ones, by looks at and upto.
"""

SLOW = "slow"
FAST = "fast"
WORDS = {"slow": ("at", "from"), "fast": ("at", "upto")}


def side_looks(looks, side):
    """Those of the looks that speak on the side."""
    words = WORDS[side]
    return [look for look in looks if look[0] in words]


def round_looks(hands, side):
    """For each hand of the round its looks of the side."""
    return [side_looks(hand.looks(), side) for hand in hands]


def place_by(look, side, x, length):
    """The place to which this look alone tells that x is led at least (slow) or at most (fast)."""
    _, start, end = look
    if side == SLOW:
        return end + (x - start) // length * length
    return end - (start - x) // length * length


def best_step(looks, side, x, length):
    """The place that these looks of the side tell of x, and a look that tells it; None without looks."""
    if not looks:
        return None
    steps = [(place_by(look, side, x, length), look) for look in looks]
    return max(steps) if side == SLOW else min(steps)


class Walk:
    """The places of a pointer behind 0 uses, 1 use and so on, with the looks that tell them.

    Behind a use of a hand the pointer stands where one of the hand's looks leads,
    but for turns. So it soon comes round, and what it does from then on it does
    again and again: no number of uses is too large to be asked about.
    """

    def __init__(self, hands, side, x):
        self.places = [x]
        self.told_by = []
        # The number of uses behind which it first stood where it comes round to;
        # None where the walk breaks off before a hand without looks of the side.
        self.start = None
        self._follow(hands[0].length(), round_looks(hands, side), side)

    def _follow(self, length, known, side):
        seen = {}
        while True:
            uses = len(self.told_by)
            number = uses % len(known)
            mark = (number, self.places[-1] % length)
            if mark in seen:
                self.start = seen[mark]
                return
            if not known[number]:
                return
            seen[mark] = uses
            place, look = best_step(known[number], side, self.places[-1], length)
            self.places.append(place)
            self.told_by.append(look)

    def period(self):
        """How many uses it takes to come round."""
        return len(self.told_by) - self.start

    def climb(self):
        """How far the pointer is led each time that it comes round."""
        return self.places[-1] - self.places[self.start]

    def behind(self, uses):
        """The place behind so many uses; None where the walk breaks off before."""
        if uses < len(self.places):
            return self.places[uses]
        if self.start is None:
            return None
        times, rest = divmod(uses - self.start, self.period())
        return self.places[self.start + rest] + times * self.climb()

    def reach(self, y):
        """The least number of uses behind which the walk is at y or farther; None where there is none."""
        for uses, place in enumerate(self.places):
            if place >= y:
                return uses
        if self.start is None or self.climb() <= 0:
            return None
        lap = self.places[self.start:]
        # The first time round, counted on from the lap, in which any place is far enough.
        times = -((max(lap) - y) // self.climb())
        goal = y - times * self.climb()
        far_enough = [at for at, place in enumerate(lap) if place >= goal]
        return self.start + times * self.period() + far_enough[0]
