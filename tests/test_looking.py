"""[15] and [16]: neighbours of a fraction, and a pointer that is followed."""

import random
import unittest
from fractions import Fraction
from itertools import combinations

from darkpace.darks import Dark
from darkpace.errors import Clash, NoBottom, NoLength
from darkpace.hands import Hand
from darkpace.looking import followed, neighbours
from darkpace.paces import paces
from oracle import Refusing, all_hands, dark_of, nearest, pace, pair, places

FAR = 10 ** 60 - 1


class Neighbours(Refusing, unittest.TestCase):
    def test_a_bottom_below_1(self):
        for bottom in (0, -1, -FAR):
            for fraction in ((3, 7), (0, 1), (-1, 2)):
                self.refused(NoBottom, bottom, neighbours, fraction, bottom)

    def test_a_fraction_whose_bottom_is_not_above_the_told_one_is_both(self):
        for fraction in ((3, 7), (-3, 7), (0, 1), (5, 1), (-2, 1), (FAR, 7)):
            for bottom in (7, 8, 1000):
                self.assertEqual(neighbours(fraction, bottom), (fraction, fraction))
        self.assertEqual(neighbours((4, 1), 1), ((4, 1), (4, 1)))

    def test_a_bottom_of_1(self):
        for fraction, told in (((7, 2), ((3, 1), (4, 1))), ((-7, 2), ((-4, 1), (-3, 1))), ((1, 9), ((0, 1), (1, 1))),
                               ((-1, 9), ((-1, 1), (0, 1))), ((0, 1), ((0, 1), (0, 1)))):
            self.assertEqual(neighbours(fraction, 1), told)

    def test_neighbours_draw_nearer_with_greater_bottoms(self):
        told = [neighbours((3, 7), bottom) for bottom in range(1, 8)]
        self.assertEqual(told, [
            ((0, 1), (1, 1)), ((0, 1), (1, 2)), ((1, 3), (1, 2)), ((1, 3), (1, 2)), ((2, 5), (1, 2)),
            ((2, 5), (1, 2)), ((3, 7), (3, 7)),
        ])
        self.assertEqual(neighbours((-3, 7), 6), ((-1, 2), (-2, 5)))
        self.assertEqual(neighbours((24, 7), 6), ((17, 5), (7, 2)))

    def test_they_are_told_as_tuples(self):
        for bottom in (3, 9):
            told = neighbours((3, 7), bottom)
            self.assertTrue(type(told) is tuple and type(told[0]) is tuple and type(told[1]) is tuple)

    def test_they_are_the_nearest_of_all(self):
        for own in range(1, 20):
            for top in range(-own, own + 2):
                fraction = Fraction(top, own)
                for bottom in (1, 2, 3, 4, 5, 7, 11, 12, 18, 21):
                    self.assertEqual(list(neighbours(pair(fraction), bottom)), nearest(fraction, bottom)[:2])

    def test_bottoms_to_a_thousand_and_fractions_of_sixty_figures(self):
        chance = random.Random(15)
        for _ in range(40):
            own = chance.choice((chance.randint(1, 2000), chance.randrange(1, FAR)))
            fraction = Fraction(chance.randrange(-FAR, FAR), own)
            for bottom in (1, 2, 999, 1000):
                self.assertEqual(list(neighbours(pair(fraction), bottom)), nearest(fraction, bottom)[:2])

    def test_fractions_close_to_one_with_a_small_bottom(self):
        self.assertEqual(neighbours((FAR - 1, FAR), 1000), ((999, 1000), (1, 1)))
        self.assertEqual(neighbours((1, FAR), 1000), ((0, 1), (1, 1000)))
        self.assertEqual(neighbours((-1, FAR), 1000), ((-1, 1000), (0, 1)))
        self.assertEqual(neighbours((FAR, 2 * FAR + 1), 1000), ((499, 999), (1, 2)))


class Followed(Refusing, unittest.TestCase):
    def test_without_leads_there_is_no_pace(self):
        for length, first in ((1, 0), (10, -3), (10 ** 30 - 1, FAR)):
            self.assertEqual(followed(length, first, []), (None, None))

    def test_one_lead(self):
        for lead, told in ((4, ((0, 1), (1, 1))), (0, ((0, 1), (0, 1))), (10, ((1, 1), (1, 1))),
                           (-3, ((-1, 1), (0, 1))), (34, ((3, 1), (4, 1)))):
            self.assertEqual(followed(10, 0, [lead]), told)
            self.assertEqual(followed(10, 77, [77 + lead]), told)
            self.assertEqual(followed(10, 77 - FAR, [77 - FAR + lead]), told)

    def test_each_lead_draws_the_paces_nearer(self):
        leads = [3, 6, 9, 12, 15, 18, 21]
        told = [followed(7, 0, leads[:many]) for many in range(8)]
        self.assertEqual(told, [(None, None)] + [neighbours((3, 7), bottom) for bottom in range(1, 8)])

    def test_what_is_told_is_what_the_looks_tell(self):
        leads = [4, 9, 12, 15]
        dark = dark_of(12, ("at", 1, 4), ("at", 4, 9), ("at", 9, 12), ("at", 12, 15))
        self.assertEqual(followed(12, 1, leads), paces([dark]))

    def test_a_look_that_was_heard_already_is_none(self):
        self.assertEqual(followed(10, 3, [3, 3, 3]), ((0, 1), (0, 1)))
        self.assertEqual(followed(10, 3, [8, 13, 18, 23, 28]), ((1, 2), (1, 2)))

    def test_a_length_below_1(self):
        for length in (0, -4):
            self.refused(NoLength, length, followed, length, 3, [])
            self.refused(NoLength, length, followed, length, 3, [4, 2, 7])

    def test_the_first_look_that_is_refused(self):
        self.refused(Clash, (("at", 4, 2), ("at", 0, 4)), followed, 10, 0, [4, 2, 7])
        self.refused(Clash, (("at", 4, 2), ("at", 0, 4)), followed, 10, 20, [24, 22, 90, -5])
        self.refused(Clash, (("at", 3, 14), ("at", 3, 13)), followed, 10, 3, [13, 24])
        self.refused(Clash, (("at", 5, 4), ("at", 0, 7)), followed, 10, -10, [-3, 5, 4])

    def test_the_least_of_those_heard_with_which_it_clashes(self):
        # From 9 on 5 the pointer would be led behind where it was led from 2 and from 6.
        self.refused(Clash, (("at", 9, 5), ("at", 2, 6)), followed, 10, 2, [6, 9, 5])
        self.refused(Clash, (("at", 9, 8), ("at", 6, 9)), followed, 10, 2, [6, 9, 8])

    def check(self, length, first, leads, hand_pace):
        """That the told paces are as near as so many leads must bring them."""
        many, told = len(leads), followed(length, first, leads)
        lower, upper, below, above = nearest(hand_pace, many)
        if hand_pace.denominator > many:
            self.assertEqual(told, (lower, upper))
        else:
            own = pair(hand_pace)
            self.assertIn(told, ((own, own), (own, above), (below, own)))

    def test_hands_of_small_dials_followed(self):
        for length in (1, 2, 3, 4):
            for hand in all_hands(length, -1, length):
                for first in range(length):
                    walk = places((hand,), first, length + 2)
                    for many in range(1, length + 3):
                        self.check(length, first, walk[1:many + 1], pace((hand,)))

    def test_chance_hands_followed(self):
        chance = random.Random(16)
        for _ in range(300):
            length = chance.randint(5, 40)
            on = chance.randint(-length, length)
            hand = tuple(on + place for place in sorted(chance.randint(0, length) for _ in range(length)))
            first = chance.randint(-length, length)
            walk = places((hand,), first, 20)
            for many in (1, 2, 3, 7, 20):
                self.check(length, first, walk[1:many + 1], pace((hand,)))

    def test_no_looks_tell_more_of_a_hand_that_turns_evenly(self):
        for length in (1, 2, 3, 4, 5, 6, 7):
            for on in range(-1, length):
                fraction = Fraction(on, length)
                for many in range(1, length + 1):
                    lower, upper = [Fraction(*told) for told in nearest(fraction, many)[:2]]
                    for starts in combinations(range(length), many):
                        dark = Dark(length)
                        for x in starts:
                            dark.hear("at", x, x + on)
                        slow, fast = paces([dark])
                        self.assertLessEqual(Fraction(*slow), lower)
                        self.assertGreaterEqual(Fraction(*fast), upper)

    def test_four_hundred_leads_of_a_long_dial(self):
        length = 10 ** 30 - 57
        for on in (length // 3 - 10 ** 26, 7 * length // 1000 + 1, -length // 2 + 1, FAR):
            fraction = Fraction(on, length)
            for first in (0, FAR, -FAR):
                leads = [first + on * use for use in range(1, 401)]
                self.assertEqual(list(followed(length, first, leads)), nearest(fraction, 400)[:2])

    def test_four_hundred_leads_of_a_told_hand(self):
        step = 10 ** 27
        hand = Hand(24 * step, [(x * step, (x + 7) * step) for x in range(24)])
        leads = [hand.lead(5, uses) for uses in range(1, 401)]
        self.assertEqual(followed(24 * step, 5, leads)[1], (7, 24))
        self.assertEqual(followed(24 * step, 5, leads[:23]), neighbours((7, 24), 23))


if __name__ == "__main__":
    unittest.main()
