"""[9], [10] and [11]: paces, and the rings that show them."""

import random
import unittest
from fractions import Fraction
from itertools import product

from darkpace.darks import Dark
from darkpace.errors import NoRing, NoRound, NoSide
from darkpace.paces import paces, ring, ring_pace
from darkpace.rounds import greatest_behind, least_behind
from oracle import (
    Refusing, SIDES, all_rings, bounds, chance_dark, dark_of, fitting, looked_at, pace, pace_of_ring, pair,
)


class Refusals(Refusing, unittest.TestCase):
    def test_no_hands_make_no_round(self):
        self.refused(NoRound, None, paces, [])
        for side in SIDES:
            self.refused(NoRound, None, ring, [], side)
            self.refused(NoRound, None, ring_pace, [], side, [("at", 0, 1)])

    def test_the_first_hand_of_another_length_is_told_by_its_number(self):
        for number, hands in ((1, [Dark(4), Dark(5)]), (2, [Dark(4), Dark(4), Dark(3), Dark(4), Dark(6)])):
            self.refused(NoRound, number, paces, hands)
            for side in SIDES:
                self.refused(NoRound, number, ring, hands, side)
                self.refused(NoRound, number, ring_pace, hands, side, [("at", 0, 1)])

    def test_a_word_that_no_side_has(self):
        dark = dark_of(4, ("at", 0, 1))
        for side in ("", "Slow", "from", "at", "fast "):
            self.refused(NoSide, side, ring, [dark], side)
            self.refused(NoSide, side, ring_pace, [dark], side, [("at", 0, 1)])

    def test_no_side_goes_ahead_of_no_round_and_that_of_no_ring(self):
        self.refused(NoSide, "up", ring, [], "up")
        self.refused(NoSide, "up", ring, [Dark(4), Dark(5)], "up")
        self.refused(NoSide, "up", ring_pace, [], "up", [])
        self.refused(NoSide, "up", ring_pace, [Dark(4)], "up", [])
        self.refused(NoSide, "up", ring_pace, [Dark(4)], "up", [("at", 0, 1)])
        self.refused(NoRound, None, ring_pace, [], "slow", [])
        self.refused(NoRound, 1, ring_pace, [Dark(4), Dark(5)], "fast", [])

    def test_no_looks_or_no_whole_rounds_make_no_ring(self):
        dark = dark_of(4, ("at", 0, 1))
        for side in SIDES:
            self.refused(NoRing, None, ring_pace, [dark], side, [])
            self.refused(NoRing, None, ring_pace, [dark, dark], side, [("at", 0, 1)])
            self.refused(NoRing, None, ring_pace, [dark, dark], side, [("at", 0, 1)] * 3)
            self.refused(NoRing, None, ring_pace, [dark] * 3, side, [("at", 0, 1)] * 4)

    def test_no_whole_rounds_go_ahead_of_a_look_that_is_none(self):
        dark = dark_of(4, ("at", 0, 1))
        self.refused(NoRing, None, ring_pace, [dark, dark], "slow", [("at", 3, 1)] * 3)

    def test_the_first_look_that_is_not_one_of_its_hands_is_told_by_its_number(self):
        one = dark_of(4, ("at", 0, 1), ("from", 2, 3), ("upto", 2, 4))
        other = dark_of(4, ("at", 1, 6), ("from", 0, 0), ("upto", 3, 9))
        a, b = ("at", 0, 1), ("at", 1, 6)
        for side in SIDES:
            self.refused(NoRing, 0, ring_pace, [one], side, [b])
            self.refused(NoRing, 0, ring_pace, [one, other], side, [b, a])
            self.refused(NoRing, 1, ring_pace, [one, other], side, [a, a])
            self.refused(NoRing, 2, ring_pace, [one, other], side, [a, b, b, a])
            self.refused(NoRing, 3, ring_pace, [one, other], side, [a, b, a, ("at", 1, 7)])
            self.refused(NoRing, 1, ring_pace, [one], side, [a, ("at", 0, 2), ("at", 0, 3)])

    def test_a_look_not_brought_home_is_none(self):
        dark = dark_of(4, ("at", 0, 1))
        for side in SIDES:
            self.refused(NoRing, 1, ring_pace, [dark], side, [("at", 0, 1), ("at", 4, 5)])
            self.refused(NoRing, 0, ring_pace, [dark], side, [("at", -4, -3)])

    def test_a_look_of_the_other_side_is_none(self):
        dark = dark_of(4, ("at", 0, 1), ("from", 2, 3), ("upto", 2, 4))
        at, low, high = dark.looks()
        self.refused(NoRing, 2, ring_pace, [dark], "slow", [at, low, high])
        self.refused(NoRing, 1, ring_pace, [dark], "fast", [at, low, high])
        self.refused(NoRing, 1, ring_pace, [dark, dark], "fast", [at, low])

    def test_a_look_dropped_is_none(self):
        dark = dark_of(4, ("at", 0, 1), ("from", 2, 3))
        dark.drop("at", 0, 1)
        self.refused(NoRing, 0, ring_pace, [dark], "slow", [("at", 0, 1)])


class Paces(unittest.TestCase):
    def test_a_hand_that_turns_evenly(self):
        for length, p, q in ((12, 5, 12), (12, 1, 4), (5, 7, 5), (4, -3, 4), (6, 0, 1), (6, -1, 1), (6, 3, 2)):
            hand = dark_of(length, *[("at", x, x + p * length // q) for x in range(length)])
            self.assertEqual(paces([hand]), ((p, q), (p, q)))

    def test_paces_are_told_as_tuples_in_lowest_terms(self):
        told = paces([dark_of(4, *[("at", x, x + 2) for x in range(4)])])
        self.assertEqual(told, ((1, 2), (1, 2)))
        self.assertIs(type(told), tuple)
        self.assertIs(type(told[0]), tuple)

    def test_a_pace_of_0(self):
        self.assertEqual(paces([dark_of(4, ("at", 1, 1))]), ((0, 1), (0, 1)))
        self.assertEqual(paces([dark_of(4, ("at", 1, 2))]), ((0, 1), (1, 1)))
        self.assertEqual(paces([dark_of(4, ("at", 0, 0), ("at", 2, 3))]), ((0, 1), (0, 1)))

    def test_paces_below_0(self):
        self.assertEqual(paces([dark_of(4, ("at", 1, 0))]), ((-1, 1), (0, 1)))
        self.assertEqual(paces([dark_of(4, ("at", 1, -7))]), ((-2, 1), (-2, 1)))
        self.assertEqual(paces([dark_of(10, ("at", 0, -5), ("at", 5, 0))]), ((-1, 2), (-1, 2)))

    def test_length_1(self):
        self.assertEqual(paces([dark_of(1, ("from", 0, -2), ("upto", 0, 5))]), ((-2, 1), (5, 1)))

    def test_without_looks_of_a_side_there_is_no_pace_of_it(self):
        low, high = dark_of(4, ("from", 0, 4)), dark_of(4, ("upto", 0, 9))
        self.assertEqual(paces([Dark(4)]), (None, None))
        self.assertEqual(paces([low]), ((1, 1), None))
        self.assertEqual(paces([high]), (None, (3, 1)))
        self.assertEqual(paces([low, high]), (None, None))
        self.assertEqual(paces([low, low, dark_of(4, ("at", 0, 4))]), ((3, 1), None))
        self.assertEqual(paces([dark_of(4, ("at", 0, 4)), high]), (None, (4, 1)))

    def test_a_pace_is_that_of_one_whole_round(self):
        hand = dark_of(5, *[("at", x, x + 2) for x in range(5)])
        for many in range(1, 7):
            fraction = Fraction(2 * many, 5)
            self.assertEqual(paces([hand] * many), (pair(fraction), pair(fraction)))

    def test_looks_that_others_say_already_change_no_pace(self):
        dark = dark_of(7, ("at", 0, 3), ("at", 3, 8))
        told = paces([dark])
        dark.hear("from", 4, 3)
        dark.hear("upto", 2, 12)
        self.assertEqual(paces([dark]), told)

    def test_behind_rounds_a_pointer_is_led_the_pace_but_for_a_turn(self):
        chance = random.Random(9)
        for _ in range(200):
            length = chance.randint(1, 9)
            hands = [chance_dark(chance, length, 6) for _ in range(chance.randint(1, 3))]
            for told, behind in zip(paces(hands), (least_behind, greatest_behind)):
                for rounds in (1, 7, 10 ** 20):
                    x = chance.randint(-20, 20)
                    place = behind(hands, x, rounds * len(hands))
                    if told is None:
                        self.assertIsNone(place)
                    else:
                        self.assertLessEqual(abs(Fraction(place - x, length) - rounds * Fraction(*told)), 1)

    def test_led_back_slow_and_fast_change_places_and_signs(self):
        chance = random.Random(18)
        for _ in range(300):
            length = chance.randint(1, 9)
            dark = chance_dark(chance, length, 7)
            slow, fast = paces([dark])
            turned = [None if told is None else (-told[0], told[1]) for told in (fast, slow)]
            self.assertEqual(paces([dark.led_back()]), tuple(turned))


class RingPaces(unittest.TestCase):
    def test_the_gaps_are_counted_in_whole_turns_down_for_slow_and_up_for_fast(self):
        dark = dark_of(10, ("at", 2, 15), ("at", 7, 18))
        one, other = dark.looks()
        self.assertEqual(ring_pace([dark], "slow", [one]), (1, 1))
        self.assertEqual(ring_pace([dark], "fast", [one]), (2, 1))
        self.assertEqual(ring_pace([dark], "slow", [other]), (1, 1))
        self.assertEqual(ring_pace([dark], "fast", [other]), (2, 1))
        # 15 - 7 and 18 - 2.
        self.assertEqual(ring_pace([dark], "slow", [one, other]), (1, 2))
        self.assertEqual(ring_pace([dark], "fast", [one, other]), (3, 2))

    def test_gaps_of_whole_turns(self):
        dark = dark_of(10, ("at", 0, 20), ("at", 5, 25))
        one, other = dark.looks()
        for side in SIDES:
            self.assertEqual(ring_pace([dark], side, [one]), (2, 1))
            self.assertEqual(ring_pace([dark], side, [one, one]), (2, 1))
        self.assertEqual(ring_pace([dark], "slow", [one, other]), (3, 2))
        self.assertEqual(ring_pace([dark], "fast", [one, other]), (5, 2))

    def test_gaps_below_0(self):
        dark = dark_of(10, ("at", 4, -8), ("at", 9, -5))
        one, other = dark.looks()
        self.assertEqual(ring_pace([dark], "slow", [one]), (-2, 1))
        self.assertEqual(ring_pace([dark], "fast", [one]), (-1, 1))
        self.assertEqual(ring_pace([dark], "slow", [one, other]), (-3, 2))
        self.assertEqual(ring_pace([dark], "fast", [one, other]), (-1, 2))

    def test_a_pace_of_0_is_told_in_lowest_terms(self):
        dark = dark_of(10, ("at", 4, 4))
        for side in SIDES:
            self.assertEqual(ring_pace([dark], side, [("at", 4, 4)] * 6), (0, 1))

    def test_a_ring_of_several_hands_counts_whole_rounds(self):
        one, other = dark_of(10, ("at", 2, 25)), dark_of(10, ("at", 5, 32))
        for rounds in (1, 2, 5):
            looks = [("at", 2, 25), ("at", 5, 32)] * rounds
            self.assertEqual(ring_pace([one, other], "slow", looks), (5, 1))
            self.assertEqual(ring_pace([one, other], "fast", looks), (5, 1))

    def test_a_ring_begun_elsewhere_has_the_same_pace(self):
        dark = dark_of(12, *[("at", x, x + 5) for x in range(12)])
        for side in SIDES:
            looks = ring([dark], side)
            for begun in range(12):
                self.assertEqual(ring_pace([dark], side, looks[begun:] + looks[:begun]), (5, 12))
            pairs = ring([dark, dark], side)
            self.assertEqual(ring_pace([dark, dark], side, pairs[2:] + pairs[:2]), (5, 6))

    def test_a_ring_with_one_look_out(self):
        dark = dark_of(12, *[("at", x, x + 5) for x in range(12)])
        for side in SIDES:
            looks = ring([dark], side)
            for out in range(12):
                less = looks[:out] + looks[out + 1:]
                told = ring_pace([dark], side, less)
                self.assertEqual(told, pair(pace_of_ring(12, side, less, 1)))
                self.assertTrue(told < (5, 12) if side == "slow" else Fraction(*told) > Fraction(5, 12))
            with self.assertRaises(NoRing) as caught:
                ring_pace([dark, dark], side, ring([dark, dark], side)[1:])
            self.assertIsNone(caught.exception.what)

    def test_looks_that_others_say_already_may_stand_in_a_ring(self):
        dark = dark_of(10, ("at", 0, 10), ("from", 0, 10), ("upto", 0, 10), ("from", 5, 1))
        self.assertEqual(ring_pace([dark], "slow", [("from", 5, 1), ("from", 0, 10)]), (0, 1))
        self.assertEqual(ring_pace([dark], "fast", [("upto", 0, 10), ("at", 0, 10)]), (1, 1))


class Rings(unittest.TestCase):
    def test_a_told_ring_shows_the_pace(self):
        dark = dark_of(12, *[("at", x, x + 5) for x in range(12)])
        for side in SIDES:
            looks = ring([dark], side)
            self.assertIs(type(looks), list)
            self.assertEqual(sorted(looks), dark.looks())
            self.assertEqual(ring_pace([dark], side, looks), (5, 12))

    def test_the_only_ring(self):
        one, other = dark_of(10, ("from", 2, 25)), dark_of(10, ("at", 5, 32))
        self.assertEqual(ring([one, other], "slow"), [("from", 2, 25), ("at", 5, 32)])
        self.assertEqual(ring([other, one], "slow"), [("at", 5, 32), ("from", 2, 25)])
        self.assertIsNone(ring([one, other], "fast"))
        self.assertEqual(ring([other], "fast"), [("at", 5, 32)])

    def test_a_ring_begins_with_the_first_hand_though_the_pointer_comes_round_amid_a_round(self):
        darks = (
            dark_of(6, ("at", 0, 1), ("at", 2, 3), ("at", 4, 6)),
            dark_of(6, ("at", 1, 2), ("at", 3, 8)),
            dark_of(6, ("at", 2, 4), ("at", 3, 5), ("at", 5, 6)),
        )
        for hands in product(darks, repeat=3):
            hands = list(hands)
            for side, told in zip(("slow", "fast"), paces(hands)):
                self.assertEqual(ring_pace(hands, side, ring(hands, side)), told)

    def test_without_looks_of_a_side_there_is_no_ring_of_it(self):
        low, high = dark_of(4, ("from", 0, 4)), dark_of(4, ("upto", 0, 9))
        for hands in ([Dark(4)], [low, high], [low, Dark(4)], [Dark(4), high]):
            self.assertEqual((ring(hands, "slow"), ring(hands, "fast")), (None, None))
        self.assertEqual((ring([low], "slow"), ring([low], "fast")), ([("from", 0, 4)], None))
        self.assertEqual((ring([high], "slow"), ring([high], "fast")), (None, [("upto", 0, 9)]))

    def test_rings_of_negative_paces_and_of_pace_0(self):
        for looks in ([("at", 1, 0)], [("at", 1, -7)], [("at", 1, 1)], [("at", 0, -2), ("at", 2, 0)]):
            dark = dark_of(4, *looks)
            for side, told in zip(("slow", "fast"), paces([dark])):
                self.assertEqual(ring_pace([dark], side, ring([dark], side)), told)

    def test_a_told_ring_is_a_ring_and_short(self):
        chance = random.Random(11)
        for _ in range(400):
            length = chance.randint(1, 9)
            darks = [chance_dark(chance, length, 7) for _ in range(3)]
            hands = [chance.choice(darks) for _ in range(chance.randint(1, 4))]
            for side, told in zip(("slow", "fast"), paces(hands)):
                looks = ring(hands, side)
                if told is None:
                    self.assertIsNone(looks)
                    continue
                for number, look in enumerate(looks):
                    self.assertIn(look, hands[number % len(hands)].looks())
                    self.assertIn(look[0], SIDES[side])
                self.assertEqual(pair(pace_of_ring(length, side, looks, len(hands))), told)
                self.assertEqual(ring_pace(hands, side, looks), told)
                self.assertLessEqual(len(looks), len(hands) * min(looked_at(dark, side) for dark in hands))


class AllHands(unittest.TestCase):
    """For small dials: the paces of all hands that fit, and all rings, gone through one by one."""

    def chance_round(self, chance):
        length = chance.choice((1, 2, 2, 3))
        darks = [chance_dark(chance, length, chance.randint(1, 5)) for _ in range(chance.randint(1, 2))]
        return length, darks, [chance.randrange(len(darks)) for _ in range(chance.randint(1, 3))]

    def all_paces(self, darks, order, reach):
        choices = product(*[fitting(dark.length(), dark.looks(), reach) for dark in darks])
        return [pace([hands[number] for number in order]) for hands in choices]

    def test_paces(self):
        chance = random.Random(99)
        for _ in range(200):
            length, darks, order = self.chance_round(chance)
            near, far = (self.all_paces(darks, order, reach * length) for reach in (3, 4))
            slow, fast = bounds(near, far)
            self.assertEqual(paces([darks[number] for number in order]), (pair(slow), pair(fast)))

    def test_no_ring_betters_the_told_ones(self):
        chance = random.Random(1011)
        seen = 0
        for _ in range(200):
            length, darks, order = self.chance_round(chance)
            hands = [darks[number] for number in order]
            for side, told in zip(("slow", "fast"), paces(hands)):
                for rounds in (1, 2, 3):
                    rings = all_rings(hands, side, rounds) if told else []
                    for looks in rings[:500]:
                        shown = Fraction(*ring_pace(hands, side, looks))
                        self.assertEqual(shown, pace_of_ring(length, side, looks, len(hands)))
                        self.assertTrue(shown <= Fraction(*told) if side == "slow" else shown >= Fraction(*told))
                        seen += 1
        self.assertGreater(seen, 5000)

    def test_a_sure_pace_in_qths_takes_looks_at_q_places_of_each_hand(self):
        chance = random.Random(4)
        sure = 0
        for _ in range(600):
            length = chance.randint(1, 6)
            hands = [chance_dark(chance, length, 9) for _ in range(chance.randint(1, 2))]
            slow, fast = paces(hands)
            if slow is not None and slow == fast:
                sure += 1
                for dark in hands:
                    self.assertGreaterEqual(len({x for _, x, _ in dark.looks()}), slow[1])
        self.assertGreater(sure, 50)


if __name__ == "__main__":
    unittest.main()
