"""Looks, Darks and Hands, written as texts."""


def figures(number):
    """The number in figures."""
    if number < 0:
        return "-" + figures(-number)
    # By blocks: Python writes no more than some thousand figures at once, and told places may have more.
    blocks = []
    while number >= 10 ** 60:
        blocks.append(str(number % 10 ** 60).zfill(60))
        number = number // 10 ** 60
    blocks.append(str(number))
    return "".join(reversed(blocks))


def show_step(step):
    """A step of a Hand as a text."""
    x, y = step
    return f"{figures(x)} {figures(y)}"


def show_look(look):
    """A look as a text."""
    word, x, y = look
    return f"{word} {figures(x)} {figures(y)}"


def show_dark(dark):
    """A Dark as a text."""
    return "; ".join([figures(dark.length())] + [show_look(look) for look in dark.looks()])


def show_hand(hand):
    """A Hand as a text."""
    steps = ", ".join([show_step(step) for step in hand.steps()])
    return f"{figures(hand.length())}: {steps}"
