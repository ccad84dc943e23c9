"""[8] and [19]: places behind uses, and uses to places."""

import random
import unittest
from itertools import product

from darkpace.darks import Dark
from darkpace.errors import NoRound, NoUses
from darkpace.rounds import fewest_uses, greatest_behind, least_behind, most_uses
from oracle import Refusing, bounds, chance_dark, dark_of, fitting, places

TO_PLACES = (least_behind, greatest_behind)
TO_USES = (fewest_uses, most_uses)


class Refusals(Refusing, unittest.TestCase):
    def test_no_hands_make_no_round(self):
        for call in TO_PLACES + TO_USES:
            self.refused(NoRound, None, call, [], 0, 3)

    def test_the_first_hand_of_another_length_is_told_by_its_number(self):
        for call in TO_PLACES + TO_USES:
            self.refused(NoRound, 1, call, [Dark(4), Dark(5)], 0, 3)
            self.refused(NoRound, 2, call, [Dark(4), Dark(4), Dark(5), Dark(4), Dark(6)], 0, 3)
            self.refused(NoRound, 3, call, [dark_of(4, ("at", 0, 1))] * 3 + [Dark(1)] * 3, 0, 3)

    def test_a_number_of_uses_below_0_is_refused(self):
        for call in TO_PLACES:
            for uses in (-1, -10 ** 59):
                self.refused(NoUses, uses, call, [Dark(4)], 7, uses)
                self.refused(NoUses, uses, call, [dark_of(4, ("at", 0, 1))] * 2, 7, uses)

    def test_no_round_goes_ahead_of_no_uses(self):
        for call in TO_PLACES:
            self.refused(NoRound, None, call, [], 0, -1)
            self.refused(NoRound, 1, call, [Dark(4), Dark(5)], 0, -1)

    def test_what_is_refused_changes_nothing(self):
        dark = dark_of(4, ("at", 0, 1))
        hands = [dark, Dark(5)]
        for call in TO_PLACES + TO_USES:
            self.refused(NoRound, 1, call, hands, 0, 1)
        self.assertEqual(hands, [dark_of(4, ("at", 0, 1)), Dark(5)])


class Behind(unittest.TestCase):
    def test_behind_0_uses_stands_the_pointer_itself(self):
        for hands in ([Dark(4)], [dark_of(4, ("at", 0, 9))], [Dark(1), Dark(1)]):
            for x in (0, 3, -11, 10 ** 60):
                self.assertEqual((least_behind(hands, x, 0), greatest_behind(hands, x, 0)), (x, x))

    def test_uses_are_counted_one_by_one(self):
        hands = [dark_of(10, ("at", 0, 2), ("at", 2, 3)), dark_of(10, ("at", 2, 5), ("at", 3, 10))]
        self.assertEqual([least_behind(hands, 0, uses) for uses in range(7)], [0, 2, 5, 3, 10, 12, 15])
        self.assertEqual([greatest_behind(hands, 0, uses) for uses in range(7)], [0, 2, 5, 12, 15, 22, 25])

    def test_the_first_hand_is_used_first(self):
        ahead, back = dark_of(3, ("at", 0, 5)), dark_of(3, ("at", 2, -7))
        self.assertEqual(least_behind([ahead, back], 0, 1), 5)
        self.assertEqual(least_behind([ahead, back], 0, 2), -4)
        self.assertEqual(least_behind([back, ahead], 2, 1), -7)

    def test_length_1(self):
        hands = [dark_of(1, ("from", 0, 2), ("upto", 0, 5)), dark_of(1, ("at", 0, -1))]
        self.assertEqual(least_behind(hands, 100, 2 * 10 ** 59), 100 + 10 ** 59)
        self.assertEqual(greatest_behind(hands, 100, 2 * 10 ** 59 + 1), 100 + 4 * 10 ** 59 + 5)

    def test_places_below_0_and_many_turns_on(self):
        hands = [dark_of(10, ("at", 0, 2), ("at", 2, 3)), dark_of(10, ("at", 2, 5), ("at", 3, 10))]
        for turns in (-10 ** 40, -1, 1, 10 ** 40):
            for uses in (1, 2, 3, 9, 10 ** 30):
                for x in range(10):
                    for call in TO_PLACES:
                        self.assertEqual(call(hands, x + 10 * turns, uses), call(hands, x, uses) + 10 * turns)

    def test_a_look_brought_home(self):
        hands = [dark_of(10, ("at", -37, 5))]
        self.assertEqual([least_behind(hands, x, 1) for x in (2, 3, 4)], [35, 45, 45])
        self.assertEqual([greatest_behind(hands, x, 1) for x in (2, 3, 4)], [45, 45, 55])

    def test_there_is_no_place_behind_a_hand_without_looks(self):
        for uses in (1, 2, 10 ** 60):
            self.assertIsNone(least_behind([Dark(4)], 3, uses))
            self.assertIsNone(greatest_behind([Dark(4)], 3, uses))

    def test_looks_of_one_side_tell_of_that_side_alone(self):
        low, high = dark_of(4, ("from", 0, 1)), dark_of(4, ("upto", 3, 1))
        self.assertEqual((least_behind([low], 3, 2), greatest_behind([low], 3, 2)), (1, None))
        self.assertEqual((least_behind([high], 3, 2), greatest_behind([high], 3, 2)), (None, 1))
        self.assertEqual((least_behind([low, high], 3, 1), greatest_behind([low, high], 3, 1)), (1, None))
        self.assertEqual((least_behind([low, high], 3, 2), greatest_behind([low, high], 3, 2)), (None, None))

    def test_hands_not_used_by_then_do_not_count(self):
        hands = [dark_of(4, ("at", 0, 1)), dark_of(4, ("at", 1, 6)), Dark(4)]
        self.assertEqual([least_behind(hands, 0, uses) for uses in range(5)], [0, 1, 6, None, None])
        self.assertEqual([greatest_behind(hands, 0, uses) for uses in range(5)], [0, 1, 6, None, None])
        self.assertIsNone(least_behind(hands, 0, 10 ** 60))

    def test_a_round_in_which_one_dark_stands_twice(self):
        one, other = dark_of(10, ("at", 0, 2), ("at", 5, 9)), dark_of(10, ("at", 2, 5))
        self.assertEqual([least_behind([one, other, one], 0, uses) for uses in range(7)], [0, 2, 5, 9, 9, 5, 9])
        same = [one] * 5
        for uses in (1, 4, 10 ** 59 + 3):
            self.assertEqual(least_behind(same, 3, uses), least_behind([one], 3, uses))
            self.assertEqual(greatest_behind(same, 3, uses), greatest_behind([one], 3, uses))


class Uses(unittest.TestCase):
    def test_goals_not_above_the_place_take_no_use(self):
        for hands in ([Dark(4)], [dark_of(4, ("at", 0, -9))], [Dark(4), dark_of(4, ("at", 0, 9))]):
            for goal in (3, 2, -10 ** 60):
                self.assertEqual((fewest_uses(hands, 3, goal), most_uses(hands, 3, goal)), (0, 0))

    def test_uses_are_counted_one_by_one(self):
        hands = [dark_of(10, ("at", 0, 2), ("at", 2, 3)), dark_of(10, ("at", 2, 5), ("at", 3, 10))]
        self.assertEqual([fewest_uses(hands, 0, y) for y in (1, 2, 3, 5, 6, 12, 13)], [1, 1, 2, 2, 3, 3, 4])
        self.assertEqual([most_uses(hands, 0, y) for y in (1, 2, 3, 5, 6, 10, 13)], [1, 1, 2, 2, 4, 4, 6])

    def test_goals_that_are_never_reached(self):
        rest, back = dark_of(4, ("at", 1, 1)), dark_of(4, ("at", 1, 0))
        self.assertEqual((fewest_uses([rest], 0, 1), fewest_uses([rest], 0, 2)), (1, None))
        self.assertEqual((most_uses([rest], 1, 2), most_uses([rest], 0, 1)), (None, None))
        self.assertEqual((fewest_uses([back], 1, 2), most_uses([back], 1, 2)), (None, None))
        self.assertEqual((fewest_uses([rest], 0, 10 ** 60), most_uses([rest], 0, 10 ** 60)), (None, None))

    def test_a_pointer_that_rises_and_then_rests(self):
        hands = [dark_of(10, ("at", 0, 2), ("at", 2, 5), ("at", 5, 6), ("at", 6, 6))]
        self.assertEqual([most_uses(hands, 0, y) for y in range(8)], [0, 1, 1, 2, 2, 2, 3, None])

    def test_a_round_that_goes_ahead_and_back_reaches_in_its_first_round_or_never(self):
        hands = [dark_of(10, ("at", 0, 4), ("at", 5, 9)), dark_of(10, ("at", 4, 0), ("at", 9, 5))]
        self.assertEqual([fewest_uses(hands, 0, y) for y in (1, 4, 5)], [1, 1, None])
        falling = [dark_of(10, ("at", 0, 4)), dark_of(10, ("at", 4, -10))]
        self.assertEqual([most_uses(falling, 0, y) for y in (1, 4, 5)], [1, 1, None])

    def test_a_goal_may_be_reached_by_an_earlier_hand_of_the_round_and_lost_again(self):
        hands = [dark_of(10, ("at", 0, 30), ("at", 5, 35)), dark_of(10, ("at", 0, -20), ("at", 5, -15))]
        # Two uses lead 10 on; behind an odd use the pointer is 20 farther still.
        self.assertEqual(most_uses(hands, 0, 30), 1)
        self.assertEqual(most_uses(hands, 0, 31), 3)
        self.assertEqual(most_uses(hands, 0, 10 ** 59), 2 * (10 ** 58 - 3) + 1)

    def test_many_uses(self):
        dark = dark_of(3, ("at", 0, 2), ("at", 1, 3), ("at", 2, 4))
        for turns in (10 ** 29, 10 ** 59):
            self.assertEqual(most_uses([dark], -3 * turns, 3 * turns), 3 * turns)
            self.assertEqual(fewest_uses([dark], 1 - 3 * turns, 3 * turns), 3 * turns)

    def test_as_far_as_one_likes_once_a_hand_has_no_greatest_place(self):
        low = dark_of(4, ("from", 0, -9))
        self.assertEqual(fewest_uses([low], 0, 10 ** 60), 1)
        self.assertEqual(fewest_uses([Dark(4)], 0, 1), 1)
        hands = [dark_of(4, ("at", 0, 1)), dark_of(4, ("at", 1, -6)), low]
        self.assertEqual([fewest_uses(hands, 0, y) for y in (0, 1, 2, 10 ** 60)], [0, 1, 3, 3])

    def test_not_all_hands_lead_far_once_a_hand_has_no_least_place(self):
        high = dark_of(4, ("upto", 0, 9))
        self.assertIsNone(most_uses([high], 0, 1))
        self.assertIsNone(most_uses([Dark(4)], 0, 1))
        hands = [dark_of(4, ("at", 0, 1)), dark_of(4, ("at", 1, 6)), high]
        self.assertEqual([most_uses(hands, 0, y) for y in (0, 1, 2, 6, 7)], [0, 1, 2, 2, None])

    def test_a_round_in_which_one_dark_stands_twice(self):
        one, other = dark_of(10, ("at", 0, 2), ("at", 5, 9)), dark_of(10, ("at", 2, 5))
        self.assertEqual([most_uses([one, other, one], 0, y) for y in (2, 3, 6, 10)], [1, 2, 3, None])
        self.assertEqual([fewest_uses([one, other, one], 0, y) for y in (2, 3, 6, 10, 13, 16)], [1, 2, 3, 4, 5, 6])


class AllHands(unittest.TestCase):
    """For small dials: just what all hands that fit say, each Dark the same hand at each of its uses."""

    def chance_round(self, chance):
        length = chance.choice((1, 2, 2, 3))
        darks = [chance_dark(chance, length, chance.randint(1, 5)) for _ in range(chance.randint(1, 2))]
        order = [chance.randrange(len(darks)) for _ in range(chance.randint(1, 3))]
        return length, darks, order

    def walks(self, darks, order, x, uses, reach):
        choices = product(*[fitting(dark.length(), dark.looks(), reach) for dark in darks])
        return [places([hands[number] for number in order], x, uses) for hands in choices]

    def test_places_and_uses(self):
        chance = random.Random(19)
        for _ in range(120):
            length, darks, order = self.chance_round(chance)
            hands, x, uses = [darks[number] for number in order], chance.randint(-4, 4), 9 * len(order)
            near = self.walks(darks, order, x, uses, 3 * length)
            far = self.walks(darks, order, x, uses, 4 * length)
            for count in range(uses + 1):
                told = bounds([walk[count] for walk in near], [walk[count] for walk in far])
                self.assertEqual((least_behind(hands, x, count), greatest_behind(hands, x, count)), told)
            for y in range(x - 2, x + length + 2):
                some = [n for n in range(uses + 1) if any(walk[n] >= y for walk in far)]
                every = [n for n in range(uses + 1) if all(walk[n] >= y for walk in far)]
                self.assertEqual(fewest_uses(hands, x, y), some[0] if some else None)
                self.assertEqual(most_uses(hands, x, y), every[0] if every else None)


if __name__ == "__main__":
    unittest.main()
