"""The refusals: a class for each kind, each keeping as `what` the value that it is about."""


class DialError(ValueError):
    """Any refusal."""


class NoLength(DialError):
    """A length below 1."""

    def __init__(self, what):
        super().__init__("a length is 1 at least")
        self.what = what


class NoWord(DialError):
    """A word that no look has."""

    def __init__(self, what):
        super().__init__("the word of a look is at, from or upto")
        self.what = what


class Clash(DialError):
    """A look and one heard before it, which no hand fits together."""

    def __init__(self, what):
        super().__init__("no hand fits this look and one that was heard")
        self.what = what


class NoLook(DialError):
    """A look that was not heard."""

    def __init__(self, what):
        super().__init__("this look was not heard")
        self.what = what


class NoRound(DialError):
    """Hands that make no round: none at all, or of several lengths."""

    def __init__(self, what):
        super().__init__("a round is made of hands of one length, one at least")
        self.what = what


class NoUses(DialError):
    """A number of uses below 0."""

    def __init__(self, what):
        super().__init__("a number of uses is 0 at least")
        self.what = what


class NoSide(DialError):
    """A word that no side has."""

    def __init__(self, what):
        super().__init__("a side is slow or fast")
        self.what = what


class NoRing(DialError):
    """Looks that make no ring of a round."""

    def __init__(self, what):
        super().__init__("a ring has looks of each hand by turns, of one side, in whole rounds")
        self.what = what


class NoSteps(DialError):
    """A told hand without steps."""

    def __init__(self, what):
        super().__init__("a hand has one step at least")
        self.what = what


class NoBottom(DialError):
    """A bottom below 1."""

    def __init__(self, what):
        super().__init__("a bottom is 1 at least")
        self.what = what


class NoText(DialError):
    """A text that writes nothing of what it is read as."""

    def __init__(self, what):
        super().__init__("this text writes nothing that can be read back")
        self.what = what
