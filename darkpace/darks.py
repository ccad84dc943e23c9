"""A Dark: a hand of which nothing is known but what looks have told."""

from darkpace.errors import Clash, NoLength, NoLook, NoWord
from darkpace.walks import FAST, SLOW, WORDS, best_step, place_by, side_looks

LOOK_WORDS = ("at", "from", "upto")


def too_far(low, high, length):
    """Whether the look low leads farther than the look high lets."""
    if low[0] not in WORDS[SLOW] or high[0] not in WORDS[FAST]:
        return False
    return place_by(low, SLOW, high[1], length) > high[2]


def clash(look, other, length):
    """Whether no hand fits the two looks together."""
    return too_far(look, other, length) or too_far(other, look, length)


class Dark:
    """A hand in the dark: all hands of its length that are as its looks say."""

    def __init__(self, length):
        if length < 1:
            raise NoLength(length)
        self._length = length
        # Brought home, each once, always in the order of tuples.
        self._looks = []

    def __eq__(self, other):
        return isinstance(other, Dark) and self._length == other._length and self._looks == other._looks

    def __ne__(self, other):
        return not self == other

    def length(self):
        """How many places the dial has."""
        return self._length

    def hear(self, word, x, y):
        """Take a look into account; a look that clashes with one heard is refused."""
        look = self._home(word, x, y)
        other = self._clashing(look)
        if other is not None:
            raise Clash((look, other))
        if look not in self._looks:
            self._looks = sorted(self._looks + [look])

    def drop(self, word, x, y):
        """Forget a look that was heard."""
        look = self._home(word, x, y)
        if look not in self._looks:
            raise NoLook(look)
        self._looks = [other for other in self._looks if other != look]

    def looks(self):
        """The looks heard, brought home, in the order of tuples."""
        return list(self._looks)

    def least(self, x):
        """The least place to which a hand that fits leads x; None where there is none."""
        return self._bound(SLOW, x)

    def greatest(self, x):
        """The greatest place to which a hand that fits leads x; None where there is none."""
        return self._bound(FAST, x)

    def may(self, word, x, y):
        """Whether some hand that fits is as the look says."""
        return self._clashing(self._home(word, x, y)) is None

    def sure(self, word, x, y):
        """Whether every hand that fits is as the look says."""
        self._check_word(word)
        low, high = self.least(x), self.greatest(x)
        sure_from = low is not None and low >= y
        sure_upto = high is not None and high <= y
        if word == "from":
            return sure_from
        if word == "upto":
            return sure_upto
        return sure_from and sure_upto

    def led_back(self):
        """The Dark that just those hands fit that, led back, fit this one."""
        back = Dark(self._length)
        for word, x, y in self.looks():
            if word != "upto":
                back.hear("upto", y, x)
            if word != "from":
                back.hear("from", y + 1, x + 1)
        return back

    def _check_word(self, word):
        if word not in LOOK_WORDS:
            raise NoWord(word)

    def _home(self, word, x, y):
        self._check_word(word)
        turns = x // self._length
        return (word, x - turns * self._length, y - turns * self._length)

    def _clashing(self, look):
        """The first look heard that clashes with this one; None where there is none."""
        for other in self._looks:
            if clash(look, other, self._length):
                return other
        return None

    def _bound(self, side, x):
        step = best_step(side_looks(self._looks, side), side, x, self._length)
        return None if step is None else step[0]
