"""[17]: looks, Darks and Hands as texts, and read back."""

import random
import re
import unittest
from itertools import product

from darkpace.darks import Dark
from darkpace.errors import NoText
from darkpace.hands import Hand
from darkpace.readings import read_dark, read_hand, read_look
from darkpace.texts import show_dark, show_hand, show_look
from oracle import Refusing, chance_dark, dark_of

MOST = 10 ** 60 - 1
SIGNS = "".join(chr(code) for code in range(ord(" "), ord("~") + 1))
NUMBER = "(0|-?[1-9][0-9]{0,59})"
LOOK = f"(at|from|upto) {NUMBER} {NUMBER}"
STEP = f"{NUMBER} {NUMBER}"


def written_look(text):
    return re.fullmatch(LOOK, text) is not None


def in_order(length, starts, rows):
    """Whether the rows are brought home, in order, each once."""
    return all(0 <= x < length for x in starts) and rows == sorted(set(rows))


def clashing(length, one, other):
    """Whether the first look leads farther than the second one lets, gone through turn by turn."""
    if one[0] == "upto" or other[0] == "from":
        return False
    turns = 2 + (abs(one[1]) + abs(one[2]) + abs(other[1]) + abs(other[2])) // length
    return any(one[1] + k * length <= other[1] and one[2] + k * length > other[2] for k in range(-turns, turns))


def written_dark(text):
    if re.fullmatch(f"{NUMBER}(; {LOOK})*", text) is None:
        return False
    first, *rest = text.split("; ")
    rows = [part.split(" ") for part in rest]
    looks, length = [(word, int(x), int(y)) for word, x, y in rows], int(first)
    if length < 1 or not in_order(length, [x for _, x, _ in looks], looks):
        return False
    return not any(clashing(length, one, other) for one in looks for other in looks)


def written_hand(text):
    if re.fullmatch(f"{NUMBER}: {STEP}(, {STEP})*", text) is None:
        return False
    first, rest = text.split(": ")
    rows = [part.split(" ") for part in rest.split(", ")]
    steps, length = [(int(x), int(y)) for x, y in rows], int(first)
    return length >= 1 and in_order(length, [x for x, _ in steps], steps)


KINDS = (
    (read_look, show_look, written_look), (read_dark, show_dark, written_dark), (read_hand, show_hand, written_hand),
)


class Looks(Refusing, unittest.TestCase):
    def test_looks_are_written_and_read(self):
        for look, text in ((("at", 3, 4), "at 3 4"), (("from", 0, -12), "from 0 -12"), (("upto", -7, 0), "upto -7 0"),
                           (("at", 10 ** 59, -MOST), "at 1" + "0" * 59 + " -" + "9" * 60)):
            self.assertEqual(show_look(look), text)
            self.assertEqual(read_look(text), look)
            self.assertIs(type(read_look(text)), tuple)
            self.assertTrue(all(type(number) is int for number in read_look(text)[1:]))

    def test_looks_are_written_as_they_are_brought_home_or_not(self):
        self.assertEqual(show_look(("from", 1234, 5)), "from 1234 5")
        self.assertEqual(read_look("from 1234 5"), ("from", 1234, 5))

    def test_texts_that_write_no_look(self):
        for text in ("", " ", "at", "at ", "at 3", "at 3 ", "at 3 4 ", " at 3 4", "at  3 4", "at 3  4", "at 3 4 5",
                     "At 3 4", "AT 3 4", "to 3 4", "att 3 4", "3 4", "3 at 4", "at 3,4", "at 3; 4", "at 3 4;", "at3 4",
                     "at 03 4", "at 3 00", "at -0 4", "at 3 -0", "at -03 4", "at +3 4", "at 3 +4", "at --3 4", "at - 4",
                     "at 3-4", "at 3 4-", "at 3.0 4", "at 3 4e1", "at 3_0 4", "at 0x3 4", "at three 4", "at 3 a", "~",
                     "10; at 3 4", "at 3 4; at 4 5"):
            self.refused(NoText, text, read_look, text)


class Darks(Refusing, unittest.TestCase):
    def test_darks_are_written_and_read(self):
        looks = [("upto", 1, 4), ("at", 13, 14), ("from", -5, -4), ("at", 8, 13)]
        for dark, text in ((Dark(10), "10"), (Dark(1), "1"), (dark_of(10, ("at", 3, 4)), "10; at 3 4"),
                           (dark_of(10, *looks), "10; at 3 4; at 8 13; from 5 6; upto 1 4"),
                           (dark_of(10, ("from", 10, 0), ("from", 20, 0)), "10; from 0 -20; from 0 -10")):
            self.assertEqual(show_dark(dark), text)
            read = read_dark(text)
            self.assertIs(type(read), Dark)
            self.assertEqual(read, dark)

    def test_looks_that_others_say_already_are_written(self):
        dark = dark_of(10, ("at", 3, 4), ("from", 3, 4), ("from", 5, 1), ("upto", 3, 4))
        self.assertEqual(show_dark(dark), "10; at 3 4; from 3 4; from 5 1; upto 3 4")
        self.assertEqual(read_dark(show_dark(dark)), dark)

    def test_looks_are_in_the_order_of_tuples_and_not_of_signs(self):
        text = "100; from 2 -9; from 2 -8; from 2 5; from 2 11; from 11 4"
        self.assertEqual(show_dark(read_dark(text)), text)
        swapped = "100; from 11 4; from 2 5"
        self.refused(NoText, swapped, read_dark, swapped)

    def test_a_read_dark_is_a_new_one(self):
        one, other = read_dark("10; at 3 4"), read_dark("10; at 3 4")
        one.drop("at", 3, 4)
        one.hear("at", 3, 5)
        self.assertEqual(show_dark(other), "10; at 3 4")
        self.assertEqual((show_dark(one), one.least(3)), ("10; at 3 5", 5))

    def test_a_length_below_1(self):
        for text in ("0", "-1", "-10; at 3 4", "0; at 0 0", "-" + "9" * 60):
            self.refused(NoText, text, read_dark, text)

    def test_looks_twice_not_brought_home_not_in_order_or_clashing(self):
        for text in ("10; at 3 4; at 3 4", "10; from 1 1; from 2 2; from 2 2", "10; at 13 14", "10; at -7 -6",
                     "10; at 10 14", "10; from 3 4; at 5 6", "10; at 5 6; at 3 4", "10; from 3 4; from 3 3",
                     "10; upto 1 4; from 5 6", "10; at 3 4; at 4 3", "10; at 3 4; at 3 5", "10; at 0 0; at 9 11",
                     "10; from 3 4; upto 3 3", "1; at 0 0; upto 0 -1"):
            self.refused(NoText, text, read_dark, text)

    def test_texts_that_write_no_dark(self):
        for text in ("", " ", "10;", "10; ", "10;at 3 4", "10 ; at 3 4", "10;  at 3 4", "10; at 3 4;", "10; at 3 4; ",
                     " 10", "10 ", "010", "00", "-0", "+10", "1_0", "10.0", "ten", "10, at 3 4", "10: at 3 4",
                     "10 at 3 4", "at 3 4", "; at 3 4", "10; at 3 4, at 5 6", "10; at 3 4;; at 5 6", "10; to 3 4",
                     "10; at 03 4", "10; at 3 -0", "10; at 3", "10; 3 4", "10; 10", "10: 3 4"):
            self.refused(NoText, text, read_dark, text)


class Hands(Refusing, unittest.TestCase):
    def test_hands_are_written_and_read(self):
        for steps, text in (([(3, 4)], "10: 3 4"), ([(13, 14), (-5, -4)], "10: 3 4, 5 6"),
                            ([(9, -4), (0, 0), (3, 4)], "10: 0 0, 3 4, 9 -4"),
                            ([(2, 5), (3, 1), (3, 5), (3, 5)], "10: 2 5, 3 1, 3 5")):
            hand = Hand(10, steps)
            self.assertEqual(show_hand(hand), text)
            read = read_hand(text)
            self.assertIs(type(read), Hand)
            self.assertTrue(read == hand and read.lead(7) == hand.lead(7))
        self.assertEqual(read_hand("1: 0 -7"), Hand(1, [(0, -7)]))

    def test_a_length_below_1(self):
        for text in ("0: 0 0", "-1: 0 0", "-10: 3 4"):
            self.refused(NoText, text, read_hand, text)

    def test_steps_twice_not_brought_home_or_not_in_order(self):
        for text in ("10: 3 4, 3 4", "10: 13 14", "10: -7 -6", "10: 10 3", "10: 5 6, 3 4", "10: 3 4, 3 3",
                     "100: 11 4, 2 5"):
            self.refused(NoText, text, read_hand, text)

    def test_texts_that_write_no_hand(self):
        for text in ("", " ", "10", "10:", "10: ", ": 3 4", "10:3 4", "10 : 3 4", "10:  3 4", "10: 3 4,", "10: 3 4, ",
                     "10: 3 4,5 6", "10: 3 4,  5 6", "10: 3 4 , 5 6", "10: 3 4; 5 6", "10; 3 4", "10: 3", "10: 3 4 5",
                     "10: 3 4 5 6", "10: 3  4", " 10: 3 4", "10: 3 4 ", "010: 3 4", "+10: 3 4", "10: 03 4", "10: 3 04",
                     "10: -0 4", "10: 3 -0", "10: 3 +4", "10: at 3 4", "10: 10: 3 4", "3 4", "10: 3 4: 5 6", "10, 3 4",
                     "10: 3 4, 10: 5 6", "10; at 3 4"):
            self.refused(NoText, text, read_hand, text)


class Numbers(Refusing, unittest.TestCase):
    def test_numbers_of_sixty_figures(self):
        for number in (MOST, -MOST, 10 ** 59, -10 ** 59):
            for look in (("at", number, 0), ("from", 0, number), ("upto", number, number)):
                self.assertEqual(read_look(show_look(look)), look)
            self.assertEqual(read_dark(f"10; at 3 {number}"), dark_of(10, ("at", 3, number)))
            self.assertEqual(read_hand(f"10: 3 {number}"), Hand(10, [(3, number)]))
        self.assertEqual(read_dark("9" * 60), Dark(MOST))
        self.assertEqual(read_hand("9" * 60 + ": " + "9" * 59 + "8 1").steps(), [(MOST - 1, 1)])

    def test_numbers_of_one_figure_more_are_refused(self):
        for number in (MOST + 1, -MOST - 1):
            for text in (f"at {number} 0", f"at 0 {number}"):
                self.refused(NoText, text, read_look, text)
            for text in (f"10; at 0 {number}", f"{number}", f"{abs(number) * 10}; at {abs(number)} 0"):
                self.refused(NoText, text, read_dark, text)
            for text in (f"10: 0 {number}", f"{number}: 0 0", f"{abs(number) * 10}: {abs(number)} 0"):
                self.refused(NoText, text, read_hand, text)

    def test_noughts_ahead_do_not_make_sixty_figures(self):
        for text in ("at 3 0" + "9" * 59, "at 3 -0" + "9" * 59, "at " + "0" * 60 + " 4"):
            self.refused(NoText, text, read_look, text)

    def test_told_places_are_written_however_far(self):
        for noughts in (58, 59, 60, 117, 118, 4300, 9000):
            number, figures = 7 * 10 ** (noughts + 2) + 31, "7" + "0" * noughts + "31"
            text = f"at {figures} -{figures}"
            self.assertEqual(show_look(("at", number, -number)), text)
            self.refused(NoText, text, read_look, text)
        self.assertEqual(show_hand(Hand(10, [(3, 10 ** 60)])), "10: 3 1" + "0" * 60)
        self.assertEqual(show_dark(dark_of(10, ("at", MOST, 5))), "10; at 9 -" + "9" * 58 + "85")
        self.assertEqual(show_dark(dark_of(7, ("from", 3, -MOST)).led_back()), "7; upto 0 1" + "0" * 59 + "2")

    def test_figures_of_other_scripts_are_none(self):
        for text in ("at 3 \u0664", "at \u00b2 4", "at 3 4\n"):
            self.refused(NoText, text, read_look, text)


class AnyText(unittest.TestCase):
    """Whatever the text, it is read just where it is written so."""

    def check(self, text):
        for read, show, written in KINDS:
            if written(text):
                self.assertEqual(show(read(text)), text)
            else:
                with self.assertRaises(NoText, msg=(read, text)) as caught:
                    read(text)
                self.assertEqual(caught.exception.what, text)

    def test_all_short_texts(self):
        for many in range(5):
            for signs in product("01- ;:,a", repeat=many):
                self.check("".join(signs))

    def test_all_short_rows_of_words(self):
        for many in range(5):
            for words in product(("2", "0", "-1", "1:", "2;", "1,", "3;", "at", "from"), repeat=many):
                self.check(" ".join(words))

    def test_one_sign_more_less_or_other(self):
        chance = random.Random(17)
        texts = ["at 3 4", "from -12 100", "7; at 0 3; at 3 8; from 4 3; upto 2 12", "10: 0 -4, 3 10, 3 14", "12",
                 "1: 0 0"]
        for text in texts:
            self.check(text)
            for at in range(len(text) + 1):
                self.check(text[:at] + text[at + 1:])
                for sign in SIGNS if len(text) < 15 else chance.sample(SIGNS, 9) + list("0 -;:,"):
                    self.check(text[:at] + sign + text[at:])
                    self.check(text[:at] + sign + text[at + 1:])

    def test_chance_darks_and_hands(self):
        chance = random.Random(18)
        for _ in range(300):
            length = chance.randint(1, 12)
            dark = chance_dark(chance, length, chance.randint(0, 6))
            self.check(show_dark(dark))
            self.assertEqual(read_dark(show_dark(dark)), dark)
            self.assertEqual(read_dark(show_dark(dark.led_back())), dark.led_back())
            steps = [(chance.randint(-20, 20), chance.randint(-20, 20)) for _ in range(chance.randint(1, 5))]
            hand = Hand(length, steps)
            self.check(show_hand(hand))
            self.assertEqual(read_hand(show_hand(hand)), hand)

    def test_looks_some_of_which_clash(self):
        chance = random.Random(19)
        seen = {True: 0, False: 0}
        for _ in range(2000):
            length = chance.randint(1, 6)
            looks = sorted({(chance.choice(("at", "from", "upto")), chance.randrange(length), chance.randint(-4, 8))
                            for _ in range(chance.randint(1, 4))})
            text = "; ".join([str(length)] + [f"{word} {x} {y}" for word, x, y in looks])
            seen[written_dark(text)] += 1
            self.check(text)
        self.assertGreater(min(seen.values()), 200)


class Sizes(Refusing, unittest.TestCase):
    """Texts of four thousand signs."""

    def test_darks(self):
        looks = "".join(f"; at {x} {x + 5}" for x in range(900))
        text = ("900" + looks)[:4000].rpartition(";")[0]
        self.assertGreater(len(text), 3980)
        self.assertEqual(show_dark(read_dark(text)), text)
        for wrong in (text + ";", text + "; at 0 5", text + "; from 0 6", "9" + text[2:],
                      text[:2000] + " " + text[2000:]):
            self.refused(NoText, wrong, read_dark, wrong)

    def test_hands(self):
        text = ("3: " + ", ".join(f"{x} {y}" for x in range(3) for y in range(10, 300)))[:4000].rpartition(",")[0]
        self.assertGreater(len(text), 3980)
        self.assertEqual(show_hand(read_hand(text)), text)
        self.assertEqual(read_hand(text).pace(), (99, 1))
        for wrong in (text + ",", text + ", 0 10", "1" + text[1:], text[:2000] + "~" + text[2000:]):
            self.refused(NoText, wrong, read_hand, wrong)

    def test_texts_of_one_sign_over_and_over(self):
        for sign in SIGNS:
            for read, _, _ in KINDS:
                self.refused(NoText, sign * 4000, read, sign * 4000)
        for piece in ("; ", ", ", ": ", "at 0 0; ", "0 0, ", "1: ", "- "):
            for read, _, _ in KINDS:
                self.refused(NoText, piece * 500, read, piece * 500)

    def test_numbers_of_four_thousand_figures(self):
        number = "7" * 3990
        for read, text in ((read_look, f"at 0 {number}"), (read_look, f"at -{number} 0"), (read_dark, number),
                           (read_dark, f"5; at 0 {number}"), (read_hand, f"5: 0 {number}"),
                           (read_hand, number + ": 0 0")):
            self.refused(NoText, text, read, text)


if __name__ == "__main__":
    unittest.main()
