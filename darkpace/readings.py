"""Looks, Darks and Hands, read back from texts."""

from darkpace.darks import LOOK_WORDS, Dark
from darkpace.errors import Clash, NoText
from darkpace.hands import Hand
from darkpace.texts import show_dark, show_hand

FIGURES = "0123456789"
MOST_FIGURES = 60


def number_of(word):
    """The number that the word writes; None where it writes none."""
    figures = word.removeprefix("-")
    if not 1 <= len(figures) <= MOST_FIGURES or not all([sign in FIGURES for sign in figures]):
        return None
    number = int(word)
    # Noughts ahead and -0 are not written.
    return number if str(number) == word else None


def length_of(word):
    """The length that the word writes; None where it writes none."""
    number = number_of(word)
    return None if number is None or number < 1 else number


def step_of(text):
    """The (x, y) that the text writes; None where it writes none."""
    numbers = [number_of(word) for word in text.split(" ")]
    return None if len(numbers) != 2 or None in numbers else tuple(numbers)


def look_of(text):
    """The look that the text writes, brought home or not; None where it writes none."""
    word, _, rest = text.partition(" ")
    step = step_of(rest)
    return None if word not in LOOK_WORDS or step is None else (word, *step)


def dark_of(text):
    """A Dark of the length and looks that the text names, in whatever order; None where it names none."""
    parts = text.split("; ")
    length = length_of(parts[0])
    looks = [look_of(part) for part in parts[1:]]
    if length is None or None in looks:
        return None
    dark = Dark(length)
    try:
        for word, x, y in looks:
            dark.hear(word, x, y)
    except Clash:
        return None
    return dark


def hand_of(text):
    """A Hand of the length and steps that the text names, in whatever order; None where it names none."""
    first, _, rest = text.partition(": ")
    length = length_of(first)
    steps = [step_of(part) for part in rest.split(", ")]
    return None if length is None or None in steps else Hand(length, steps)


def read_look(text):
    """The look that the text writes."""
    look = look_of(text)
    if look is None:
        raise NoText(text)
    return look


def read_dark(text):
    """The Dark that the text writes."""
    dark = dark_of(text)
    # Written again it shows looks that stood twice, not brought home or not in order.
    if dark is None or show_dark(dark) != text:
        raise NoText(text)
    return dark


def read_hand(text):
    """The Hand that the text writes."""
    hand = hand_of(text)
    # Written again it shows steps that stood twice, not brought home or not in order.
    if hand is None or show_hand(hand) != text:
        raise NoText(text)
    return hand
