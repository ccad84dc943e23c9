"""A Hand: a hand that is told whole, by its steps."""

from darkpace.darks import Dark
from darkpace.errors import NoSteps
from darkpace.paces import side_pace
from darkpace.rounds import least_behind, most_uses
from darkpace.walks import SLOW


class Hand:
    """The hand that leads each place to the greatest place that a step at it, or before it, tells."""

    def __init__(self, length, steps):
        # The hand leads each place just to the least place of a Dark that heard each step as a look from,
        # and back just to the greatest place of that Dark led back.
        self._dark = Dark(length)
        if not steps:
            raise NoSteps(None)
        for x, y in steps:
            self._dark.hear("from", x, y)
        self._back = self._dark.led_back()

    def __eq__(self, other):
        return isinstance(other, Hand) and self._dark == other._dark

    def __ne__(self, other):
        return not self == other

    def length(self):
        """How many places the dial has."""
        return self._dark.length()

    def steps(self):
        """The steps, brought home, in the order of tuples, each once."""
        return [(x, y) for _, x, y in self._dark.looks()]

    def lead(self, x, uses=1):
        """The place to which so many uses lead x."""
        return least_behind([self._dark], x, uses)

    def pace(self):
        """How many turns a pointer is led by a use, at last and on the whole."""
        return side_pace([self._dark], SLOW)

    def back(self, y):
        """The least place that is led to y or farther."""
        return self._back.greatest(y)

    def uses(self, x, y):
        """The least number of uses that lead x to y or farther; None where none do."""
        return most_uses([self._dark], x, y)

    def homes(self):
        """The places from 0 to L - 1 that q uses lead just p turns on, rising; (p, q) is the pace."""
        length = self.length()
        led = {y % length: self._dark.least(y) % length for _, y in self.steps()}
        # Homes are the places that come round again. Of the places that are led to, of the places that
        # those are led to, and so on, all others sooner or later drop out.
        homes = sorted(led)
        while True:
            kept = sorted({led[place] for place in homes})
            if len(kept) == len(homes):
                return homes
            homes = kept

    def gates(self):
        """The gates (a, h), by their homes h from 0 to L - 1, rising."""
        begins = self.led_back().homes()
        # The nearest beginning may be the last one of the turn before.
        before = begins[-1] - self.length()
        return [(max([before] + [a for a in begins if a <= home]), home) for home in self.homes()]

    def led_back(self):
        """The Hand that leads each y to back(y)."""
        # Just behind where a step leads, and nowhere else, back leads farther than before.
        return Hand(self.length(), [(y + 1, self.back(y + 1)) for _, y in self.steps()])
