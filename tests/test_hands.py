"""[12], [13], [14] and the Hand led back of [18]."""

import random
import unittest

from darkpace.darks import Dark
from darkpace.errors import NoLength, NoSteps, NoUses
from darkpace.hands import Hand
from darkpace.rounds import most_uses
from oracle import Refusing, all_hands, back_of, gates_of, homes_of, lead, pace, pair, places, told_hand

FAR = 10 ** 60 - 1


def even_hand(length, on):
    """A hand that leads every place as far on."""
    return Hand(length, [(x, x + on) for x in range(length)])


def chance_steps(chance, length, many):
    """Steps some turns on, some covered by others, some the same when brought home."""
    steps = []
    for _ in range(many):
        x = chance.randint(-2 * length, 3 * length)
        steps.append((x, x + chance.randint(-length, length)))
    return steps


class Refusals(Refusing, unittest.TestCase):
    def test_a_length_below_1(self):
        for length in (0, -1, -10 ** 29):
            self.refused(NoLength, length, Hand, length, [(0, 1)])

    def test_no_steps(self):
        for length in (1, 10, 10 ** 30 - 1):
            self.refused(NoSteps, None, Hand, length, [])

    def test_no_length_goes_ahead_of_no_steps(self):
        self.refused(NoLength, 0, Hand, 0, [])
        self.refused(NoLength, -7, Hand, -7, [])

    def test_a_number_of_uses_below_0(self):
        hand = Hand(10, [(3, 4)])
        for uses in (-1, -2, -FAR):
            self.refused(NoUses, uses, hand.lead, 7, uses)
        self.assertEqual((hand.lead(7), hand.steps()), (4, [(3, 4)]))


class Steps(unittest.TestCase):
    def test_a_length_is_told(self):
        for length in (1, 2, 12, 10 ** 30 - 1):
            self.assertEqual(Hand(length, [(0, 0)]).length(), length)

    def test_steps_are_told_in_the_order_of_tuples(self):
        steps = [(7, 9), (2, 11), (5, -8), (0, 3)]
        self.assertEqual(Hand(10, steps).steps(), [(0, 3), (2, 11), (5, -8), (7, 9)])
        told = Hand(10, steps).steps()
        self.assertIs(type(told), list)
        self.assertTrue(all(type(step) is tuple for step in told))

    def test_steps_are_brought_home(self):
        for step, there in (((13, 14), (3, 4)), ((10, 3), (0, -7)), ((-1, 5), (9, 15)), ((-10, 0), (0, 10)),
                            ((9, 92), (9, 92)), ((7 * 10 ** 40 + 3, 0), (3, -7 * 10 ** 40))):
            self.assertEqual(Hand(10, [step]).steps(), [there])
        self.assertEqual(Hand(1, [(5, 7)]).steps(), [(0, 2)])

    def test_each_is_told_once(self):
        self.assertEqual(Hand(10, [(3, 4), (13, 14), (3, 4), (-7, -6)]).steps(), [(3, 4)])

    def test_steps_that_others_cover_are_told(self):
        steps = [(2, 5), (3, 1), (3, 4), (3, 5), (4, 5), (6, 8)]
        self.assertEqual(Hand(10, steps).steps(), steps)


class Leading(unittest.TestCase):
    def test_a_place_is_led_by_the_farthest_step_at_it_or_before_it(self):
        hand = Hand(10, [(2, 5), (6, 8)])
        self.assertEqual([hand.lead(x) for x in range(0, 14)], [-2, -2, 5, 5, 5, 5, 8, 8, 8, 8, 8, 8, 15, 15])

    def test_one_step_binds_all_places(self):
        hand = Hand(10, [(3, 4)])
        self.assertEqual([hand.lead(x) for x in (-8, -7, 2, 3, 12, 13)], [-16, -6, -6, 4, 4, 14])

    def test_a_step_far_ahead_covers_those_behind_it(self):
        hand = Hand(10, [(2, 35), (6, 8), (7, 24)])
        self.assertEqual([hand.lead(x) for x in (1, 2, 6, 7, 11, 12)], [25, 35, 35, 35, 35, 45])

    def test_steps_that_others_cover_change_nothing(self):
        hand, more = Hand(10, [(2, 5), (6, 8)]), Hand(10, [(2, 5), (6, 8), (7, 8), (9, 3), (2, 1), (15, 15)])
        for x in range(-10, 20):
            self.assertEqual(hand.lead(x), more.lead(x))
        self.assertEqual((hand.pace(), hand.gates()), (more.pace(), more.gates()))

    def test_steps_some_turns_on_say_the_same_as_at_home(self):
        hand, other = Hand(10, [(2, 5), (6, 8)]), Hand(10, [(-38, -35), (10 ** 40 + 6, 10 ** 40 + 8)])
        for x in range(-10, 20):
            self.assertEqual(hand.lead(x), other.lead(x))

    def test_a_turn_on_it_leads_a_turn_on(self):
        hand = Hand(10, [(2, 5), (6, 18)])
        for turns in (-10 ** 59, -3, -1, 1, 10 ** 59):
            for x in range(10):
                for uses in (1, 2, 77):
                    self.assertEqual(hand.lead(x + 10 * turns, uses), hand.lead(x, uses) + 10 * turns)

    def test_uses(self):
        hand = Hand(10, [(0, 7), (5, 12)])
        self.assertEqual([hand.lead(3, uses) for uses in range(6)], [3, 7, 12, 17, 22, 27])
        self.assertEqual(hand.lead(3), hand.lead(3, 1))
        self.assertEqual(hand.lead(3, 2 * FAR), 2 + 10 * FAR)

    def test_length_1(self):
        hand = Hand(1, [(0, 2), (4, 3)])
        self.assertEqual((hand.lead(9), hand.lead(9, 10 ** 59), hand.back(9), hand.pace()),
                         (11, 9 + 2 * 10 ** 59, 7, (2, 1)))
        self.assertEqual((hand.homes(), hand.gates(), hand.uses(0, 5)), ([0], [(0, 0)], 3))


class Paces(unittest.TestCase):
    def test_paces(self):
        for steps, told in (([(2, 5), (6, 8)], (0, 1)), ([(2, 15), (6, 18)], (1, 1)), ([(0, 7), (5, 12)], (1, 2)),
                            ([(0, -8), (5, -3)], (-1, 1)), ([(0, -5), (5, 0)], (-1, 2)), ([(3, 33)], (3, 1)),
                            ([(3, 34)], (3, 1)), ([(3, 32)], (2, 1)), ([(3, 2)], (-1, 1))):
            self.assertEqual(Hand(10, steps).pace(), told)
            self.assertIs(type(Hand(10, steps).pace()), tuple)

    def test_hands_that_turn_evenly(self):
        for length, on, told in ((12, 5, (5, 12)), (12, 8, (2, 3)), (12, -9, (-3, 4)), (12, 24, (2, 1)),
                                 (7, 0, (0, 1))):
            self.assertEqual(even_hand(length, on).pace(), told)


class Back(unittest.TestCase):
    def test_back_is_the_least_place_that_is_led_as_far(self):
        hand = Hand(10, [(2, 5), (6, 8)])
        self.assertEqual([hand.back(y) for y in range(-2, 11)], [-4, 2, 2, 2, 2, 2, 2, 2, 6, 6, 6, 12, 12])

    def test_steps_that_others_cover_change_nothing(self):
        hand = Hand(10, [(2, 35), (6, 8), (7, 24)])
        self.assertEqual([hand.back(y) for y in (24, 25, 26, 35, 36)], [-8, -8, 2, 2, 12])

    def test_a_turn_on_it_comes_back_to_a_turn_on(self):
        hand = Hand(10, [(2, 5), (6, 18)])
        for turns in (-10 ** 59, -1, 1, 10 ** 59):
            for y in range(10):
                self.assertEqual(hand.back(y + 10 * turns), hand.back(y) + 10 * turns)


class Uses(unittest.TestCase):
    def test_goals_not_above_the_place_take_no_use(self):
        for steps in ([(0, 7)], [(0, -7)], [(3, 3)]):
            for y in (3, 2, -FAR):
                self.assertEqual(Hand(10, steps).uses(3, y), 0)

    def test_uses_are_counted_one_by_one(self):
        hand = Hand(10, [(0, 7), (5, 12)])
        self.assertEqual([hand.uses(3, y) for y in (4, 7, 8, 12, 13, 17, 18)], [1, 1, 2, 2, 3, 3, 4])
        self.assertEqual(hand.uses(3, 7 + 5 * FAR), 1 + FAR)

    def test_goals_that_are_never_reached(self):
        rest, back = Hand(10, [(2, 5), (6, 8)]), Hand(10, [(0, -8), (5, -3)])
        self.assertEqual([rest.uses(2, y) for y in (5, 6, FAR)], [1, None, None])
        self.assertEqual([rest.uses(8, y) for y in (8, 9)], [0, None])
        self.assertEqual([back.uses(2, y) for y in (2, 3, FAR)], [0, None, None])
        self.assertIsNone(Hand(10, [(0, 9)]).uses(0, 10))

    def test_a_pointer_that_rises_and_then_rests(self):
        hand = Hand(10, [(0, 2), (2, 5), (5, 6), (6, 6)])
        self.assertEqual([hand.uses(0, y) for y in range(8)], [0, 1, 1, 2, 2, 2, 3, None])


class Gates(unittest.TestCase):
    def check(self, length, steps, told):
        hand = Hand(length, steps)
        self.assertEqual(hand.gates(), told)
        self.assertEqual(hand.homes(), [home for _, home in told])
        self.assertTrue(type(hand.homes()) is list and type(hand.gates()) is list)
        self.assertTrue(all(type(gate) is tuple for gate in hand.gates()))

    def test_a_pace_of_0(self):
        self.check(10, [(2, 5), (6, 8)], [(2, 5), (6, 8)])
        self.check(10, [(3, 3)], [(3, 3)])
        self.check(10, [(3, 12)], [(-7, 2)])
        self.check(5, [(x, x) for x in range(5)], [(x, x) for x in range(5)])

    def test_a_pace_above_0(self):
        self.check(10, [(2, 15), (6, 18)], [(2, 5), (6, 8)])
        self.check(10, [(0, 7), (5, 12)], [(0, 2), (5, 7)])

    def test_a_pace_below_0(self):
        self.check(10, [(0, -8), (5, -3)], [(0, 2), (5, 7)])
        self.check(10, [(0, -5), (5, 0)], [(0, 0), (5, 5)])

    def test_one_home_and_a_beginning_below_0(self):
        self.check(10, [(7, 11)], [(-3, 1)])
        self.check(10, [(7, 21)], [(-3, 1)])
        self.check(10, [(7, 16)], [(-3, 6)])
        self.check(10, [(7, 7)], [(7, 7)])

    def test_many_homes_of_which_the_first_gate_begins_below_0(self):
        self.check(10, [(8, 11), (4, 5)], [(-2, 1), (4, 5)])
        self.check(10, [(9, 16), (4, 11)], [(-1, 1), (4, 6)])

    def test_hands_that_turn_evenly_have_gates_alone(self):
        for length, on in ((12, 5), (12, 8), (12, -3), (7, 0), (1, 4)):
            self.check(length, even_hand(length, on).steps(), [(x, x) for x in range(length)])

    def test_homes_on_several_ways_round(self):
        self.check(12, [(0, 7), (3, 10), (6, 13), (9, 16)], [(0, 1), (3, 4), (6, 7), (9, 10)])
        self.check(12, [(0, 6), (1, 7), (6, 12), (7, 13)], [(0, 0), (1, 1), (6, 6), (7, 7)])
        self.check(12, [(0, 7), (1, 8), (6, 13), (7, 14)], [(0, 2), (6, 8)])

    def test_uses_from_gates_and_gaps(self):
        for steps, q in (([(2, 15), (6, 18)], 1), ([(0, 7), (5, 12)], 2), ([(7, 21)], 1), ([(8, 31), (4, 25)], 1)):
            hand = Hand(10, steps)
            p = hand.pace()[0]
            inside = {x % 10 for a, home in hand.gates() for x in range(a, home + 1)}
            for x in range(-10, 20):
                for k in (1, 2, 3, 10 ** 58):
                    self.assertEqual(hand.uses(x, x + 10 * k * p), k * q + (x % 10 not in inside))


class LedBack(unittest.TestCase):
    def test_it_leads_every_place_back(self):
        for steps in ([(2, 5), (6, 8)], [(7, 11)], [(2, 35), (6, 8), (7, 24)], [(0, -8), (5, -3)]):
            hand = Hand(10, steps)
            back = hand.led_back()
            self.assertIs(type(back), Hand)
            self.assertEqual(back.length(), 10)
            for y in range(-40, 60):
                self.assertEqual(back.lead(y), hand.back(y))

    def test_its_pace_is_the_other_way_round(self):
        for steps, told in (([(0, 7), (5, 12)], (-1, 2)), ([(3, 3)], (0, 1)), ([(0, -5), (5, 0)], (1, 2))):
            self.assertEqual(Hand(10, steps).led_back().pace(), told)

    def test_led_back_twice_each_place_is_led_one_on(self):
        for steps in ([(2, 5), (6, 8)], [(7, 11)], [(2, 35), (6, 8), (7, 24)], [(0, -8), (5, -3)]):
            hand = Hand(10, steps)
            twice = hand.led_back().led_back()
            for x in range(-20, 20):
                self.assertEqual(twice.lead(x), hand.lead(x - 1) + 1)


class Likeness(unittest.TestCase):
    def test_hands_are_alike_by_lengths_and_steps(self):
        one, other = Hand(10, [(3, 4), (5, 6)]), Hand(10, [(15, 16), (-7, -6), (5, 6)])
        self.assertTrue(one == other)
        self.assertFalse(one != other)

    def test_hands_of_other_lengths_or_steps_are_not_alike(self):
        one = Hand(10, [(3, 4)])
        for other in (Hand(11, [(3, 4)]), Hand(10, [(3, 5)]), Hand(10, [(4, 4)]), Hand(10, [(3, 4), (3, 3)])):
            self.assertFalse(one == other)
            self.assertTrue(one != other)

    def test_a_hand_is_like_nothing_else(self):
        dark = Dark(10)
        dark.hear("from", 3, 4)
        for other in (None, 10, [(3, 4)], dark):
            self.assertFalse(Hand(10, [(3, 4)]) == other)
            self.assertTrue(Hand(10, [(3, 4)]) != other)
        self.assertFalse(dark == Hand(10, [(3, 4)]))


class AllHands(unittest.TestCase):
    """Small hands, one by one, held against the places that they lead to."""

    def check(self, told, hand):
        length = len(hand)
        p, q = pair(pace((hand,)))
        back = back_of(hand)
        self.assertEqual(told.pace(), (p, q))
        self.assertEqual(told.homes(), homes_of(hand, p, q, 0, length))
        self.assertEqual(told.gates(), gates_of(hand))
        self.assertEqual(len(told.homes()), len(told.led_back().homes()))
        inside = {x % length for a, home in told.gates() for x in range(a, home + 1)}
        for x in range(-length, 2 * length):
            self.assertEqual((told.lead(x), told.back(x)), (lead(hand, x), lead(back, x)))
            self.assertEqual(told.led_back().lead(x), told.back(x))
            walk = places((hand,), x, 3 * length)
            self.assertEqual([told.lead(x, uses) for uses in range(3 * length + 1)], walk)
            for y in range(x - 1, x + 2 * length):
                every = [n for n, place in enumerate(walk) if place >= y]
                self.assertEqual(told.uses(x, y), every[0] if every else most_uses_in_the_dark(told, x, y))
            for k in (1, 2, 5) if p > 0 else ():
                self.assertEqual(told.uses(x, x + k * p * length), k * q + (x % length not in inside))

    def test_all_hands_of_small_dials(self):
        for length in (1, 2, 3):
            for hand in all_hands(length, -length - 1, length + 1):
                self.check(Hand(length, list(enumerate(hand))), hand)

    def test_chance_hands(self):
        chance = random.Random(14)
        for _ in range(150):
            length = chance.randint(2, 9)
            steps = chance_steps(chance, length, chance.randint(1, 6))
            self.check(Hand(length, steps), told_hand(length, steps))

    def test_homes_and_beginnings_stand_by_turns(self):
        chance = random.Random(15)
        for _ in range(200):
            length = chance.randint(1, 12)
            hand = Hand(length, chance_steps(chance, length, chance.randint(1, 8)))
            gates = hand.gates()
            for (_, home), (a, _) in zip(gates, gates[1:]):
                self.assertLess(home, a)
            self.assertLess(gates[-1][1], gates[0][0] + length)


def most_uses_in_the_dark(hand, x, y):
    """Uses from x to y of a Dark that was told of each place of the hand."""
    dark = Dark(hand.length())
    for place in range(hand.length()):
        dark.hear("at", place, hand.lead(place))
    return most_uses([dark], x, y)


class Sizes(unittest.TestCase):
    """Lengths of thirty figures, twenty-four steps, places and uses of sixty figures."""

    def check(self, hand):
        length = hand.length()
        p, q = hand.pace()
        gates = hand.gates()
        back = hand.led_back()
        self.assertEqual([home for _, home in gates], hand.homes())
        for a, home in gates:
            self.assertEqual(hand.lead(home, q), home + p * length)
            self.assertEqual(back.lead(a, q), a - p * length)
        for x in (-FAR, FAR, gates[0][0] - 1, gates[0][0], gates[0][1]):
            self.assertGreaterEqual(hand.lead(hand.back(x)), x)
            self.assertLess(hand.lead(hand.back(x) - 1), x)
            self.assertEqual(hand.lead(hand.lead(x, FAR // 2), FAR - FAR // 2), hand.lead(x, FAR))
            self.assertEqual(back.led_back().lead(x), hand.lead(x - 1) + 1)
            uses = hand.uses(x, x + FAR)
            if p <= 0:
                self.assertIsNone(uses)
            else:
                self.assertTrue(hand.lead(x, uses) >= x + FAR > hand.lead(x, uses - 1))

    def test_chance_hands(self):
        chance = random.Random(24)
        for length in (10 ** 30 - 1, 10 ** 29 + 7, 24, 1):
            for _ in range(8):
                on = chance.choice((0, 1, -1, FAR // length)) * length
                steps = []
                for _ in range(24):
                    x = chance.randrange(-FAR, FAR)
                    steps.append((x, x + chance.randrange(length) + on))
                self.check(Hand(length, steps))

    def test_twenty_four_homes(self):
        step = 10 ** 28
        for on in (7, -7, 31, 8, 0):
            hand = Hand(24 * step, [(x * step, (x + on) * step + 5) for x in range(24)])
            self.assertEqual(len(hand.gates()), 24)
            self.assertEqual(hand.gates()[0], (0, 5))
            self.check(hand)

    def test_a_pointer_that_is_long_on_its_way_before_it_rests(self):
        hand = Hand(10 ** 30 - 1, [(x, x + 10) for x in range(0, 230, 10)] + [(230, 230)])
        self.assertEqual([hand.lead(0, uses) for uses in (1, 22, 23, 24, FAR)], [10, 220, 230, 230, 230])
        self.assertEqual([hand.uses(0, y) for y in (1, 221, 230, 231)], [1, 23, 23, None])
        self.assertEqual(hand.gates(), [(0, 230)])

    def test_places_that_were_told_are_handed_in_however_far(self):
        hand = Hand(10 ** 29, [(5, 5 + 10 ** 59)])
        place = 5
        for _ in range(100):
            place = hand.lead(place, FAR)
        self.assertEqual(place, 5 + 100 * FAR * 10 ** 59)
        self.assertEqual(hand.uses(5, place), 100 * FAR)
        self.assertEqual(hand.back(place), place - 10 ** 59)


if __name__ == "__main__":
    unittest.main()
