"""[1], [2] and [4]: what is handed in and told, names of arguments, sizes of darks and rounds, the whole.

The sizes of told hands, of looking and of texts are tested with these.
"""

import copy
import inspect
import random
import unittest
from fractions import Fraction
from itertools import permutations

from darkpace import darks, hands, looking, paces, readings, rounds, texts
from darkpace.darks import Dark
from darkpace.errors import Clash, NoLook, NoRing, NoText, NoUses
from darkpace.hands import Hand
from oracle import SIDES, chance_dark, chained_behind, dark_of, looked_at, pace_of_ring, pair

HUGE = 10 ** 30 - 57
FAR = 10 ** 60 - 1


def is_whole(value):
    return isinstance(value, int) and not isinstance(value, bool)


class Arguments(unittest.TestCase):
    def names(self, call):
        return [name for name in inspect.signature(call).parameters if name != "self"]

    def test_arguments_have_the_told_names_in_the_told_order(self):
        for call, names in (
            (Dark, ["length"]), (Dark.length, []), (Dark.hear, ["word", "x", "y"]), (Dark.drop, ["word", "x", "y"]),
            (Dark.looks, []), (Dark.least, ["x"]), (Dark.greatest, ["x"]), (Dark.may, ["word", "x", "y"]),
            (Dark.sure, ["word", "x", "y"]), (Dark.led_back, []),
            (rounds.least_behind, ["hands", "x", "uses"]), (rounds.greatest_behind, ["hands", "x", "uses"]),
            (rounds.fewest_uses, ["hands", "x", "y"]), (rounds.most_uses, ["hands", "x", "y"]),
            (paces.paces, ["hands"]), (paces.ring, ["hands", "side"]),
            (paces.ring_pace, ["hands", "side", "looks"]),
            (Hand, ["length", "steps"]), (Hand.length, []), (Hand.steps, []), (Hand.lead, ["x", "uses"]),
            (Hand.pace, []), (Hand.back, ["y"]), (Hand.uses, ["x", "y"]), (Hand.homes, []), (Hand.gates, []),
            (Hand.led_back, []), (looking.neighbours, ["fraction", "bottom"]),
            (looking.followed, ["length", "first", "leads"]), (texts.show_look, ["look"]), (texts.show_dark, ["dark"]),
            (texts.show_hand, ["hand"]), (readings.read_look, ["text"]), (readings.read_dark, ["text"]),
            (readings.read_hand, ["text"]),
        ):
            self.assertEqual(self.names(call), names, call)

    def test_arguments_may_be_handed_in_by_their_names(self):
        dark = Dark(length=10)
        dark.hear(word="at", x=3, y=4)
        dark.hear(y=1, x=5, word="from")
        dark.drop(word="from", y=1, x=5)
        self.assertEqual((dark.least(x=3), dark.greatest(x=3)), (4, 4))
        self.assertTrue(dark.may(word="at", x=3, y=4) and dark.sure(y=4, word="upto", x=3))
        self.assertEqual(rounds.least_behind(hands=[dark], x=3, uses=1), 4)
        self.assertEqual(rounds.greatest_behind(uses=1, hands=[dark], x=3), 4)
        self.assertEqual(rounds.fewest_uses(hands=[dark], x=3, y=4), 1)
        self.assertEqual(rounds.most_uses(y=4, x=3, hands=[dark]), 1)
        self.assertEqual(paces.paces(hands=[dark]), ((0, 1), (1, 1)))
        self.assertEqual(paces.ring(side="slow", hands=[dark]), [("at", 3, 4)])
        self.assertEqual(paces.ring_pace(looks=[("at", 3, 4)], hands=[dark], side="slow"), (0, 1))

    def test_arguments_of_told_hands_may_be_handed_in_by_their_names(self):
        hand = Hand(steps=[(0, 7), (5, 12)], length=10)
        self.assertEqual((hand.lead(uses=2, x=3), hand.lead(x=3), hand.lead(3, uses=0)), (12, 7, 3))
        self.assertEqual((hand.back(y=8), hand.uses(y=12, x=3)), (5, 2))
        self.assertEqual(looking.neighbours(bottom=2, fraction=(3, 7)), ((0, 1), (1, 2)))
        self.assertEqual(looking.followed(leads=[7, 14], length=7, first=0), ((1, 1), (1, 1)))
        self.assertEqual(texts.show_look(look=("at", 3, 4)), "at 3 4")
        self.assertEqual(texts.show_dark(dark=Dark(4)), "4")
        self.assertEqual(texts.show_hand(hand=hand), "10: 0 7, 5 12")
        self.assertEqual(readings.read_look(text="at 3 4"), ("at", 3, 4))
        self.assertEqual(readings.read_dark(text="4"), Dark(4))
        self.assertEqual(readings.read_hand(text="10: 0 7, 5 12"), hand)

    def test_everything_is_defined_in_its_own_file(self):
        for module, names in ((darks, ["Dark"]), (paces, ["paces", "ring", "ring_pace"]),
                              (rounds, ["least_behind", "greatest_behind", "fewest_uses", "most_uses"]),
                              (hands, ["Hand"]), (looking, ["neighbours", "followed"]),
                              (texts, ["show_look", "show_dark", "show_hand"]),
                              (readings, ["read_look", "read_dark", "read_hand"])):
            for name in names:
                self.assertEqual(getattr(module, name).__module__, module.__name__)

    def test_each_method_is_defined_in_the_class_itself(self):
        for name in ("length", "hear", "drop", "looks", "least", "greatest", "may", "sure", "led_back",
                     "__init__", "__eq__", "__ne__"):
            self.assertIn(name, vars(Dark))
        for name in ("length", "steps", "lead", "pace", "back", "uses", "homes", "gates", "led_back",
                     "__init__", "__eq__", "__ne__"):
            self.assertIn(name, vars(Hand))


class TheAskersOwn(unittest.TestCase):
    """Nothing that is handed in is changed or kept; what is told is a new list."""

    def test_told_looks_are_a_new_list(self):
        dark = dark_of(10, ("at", 3, 4), ("from", 5, 1))
        told = dark.looks()
        told.append(("at", 0, 0))
        told[0] = None
        self.assertEqual(dark.looks(), [("at", 3, 4), ("from", 5, 1)])
        self.assertEqual(dark.least(3), 4)
        told = dark.looks()
        dark.hear("upto", 5, 9)
        dark.drop("at", 3, 4)
        self.assertEqual(told, [("at", 3, 4), ("from", 5, 1)])

    def test_a_told_ring_is_a_new_list(self):
        dark = dark_of(10, ("at", 3, 4))
        for side in SIDES:
            told = paces.ring([dark], side)
            told.clear()
            self.assertEqual(paces.ring([dark], side), [("at", 3, 4)])
        told = paces.ring([dark], "slow")
        dark.hear("from", 5, 12)
        paces.ring([dark], "slow")
        self.assertEqual(told, [("at", 3, 4)])

    def test_what_is_handed_in_is_not_changed(self):
        one, other = dark_of(10, ("at", 3, 4), ("from", 5, 1)), dark_of(10, ("upto", 7, 7), ("at", 0, 3))
        hands, looks = [one, other, one], [("at", 3, 4), ("at", 0, 3), ("at", 3, 4)]
        before = (copy.deepcopy(one), copy.deepcopy(other), list(looks))
        rounds.least_behind(hands, 2, 9)
        rounds.greatest_behind(hands, 2, 10 ** 9)
        rounds.fewest_uses(hands, 2, 99)
        rounds.most_uses(hands, 2, 99)
        paces.paces(hands)
        for side in SIDES:
            paces.ring(hands, side)
            paces.ring_pace(hands, side, looks)
        with self.assertRaises(NoRing):
            paces.ring_pace(hands, "slow", looks[::-1] + [("at", 0, 3)] * 3)
        one.led_back()
        self.assertTrue(one == before[0] and other == before[1])
        self.assertEqual(looks, before[2])
        self.assertTrue(len(hands) == 3 and hands[0] is one and hands[1] is other and hands[2] is one)

    def test_nothing_is_kept_of_hands_asked_about(self):
        dark = dark_of(10, ("at", 3, 4))
        self.assertEqual(rounds.least_behind([dark], 3, 1), 4)
        self.assertEqual(paces.paces([dark]), ((0, 1), (1, 1)))
        dark.drop("at", 3, 4)
        self.assertIsNone(rounds.least_behind([dark], 3, 1))
        self.assertEqual(paces.paces([dark]), (None, None))
        dark.hear("at", 3, 13)
        self.assertEqual(rounds.least_behind([dark], 3, 1), 13)
        self.assertEqual(paces.paces([dark]), ((1, 1), (1, 1)))

    def test_darks_do_not_share_looks(self):
        one, other = Dark(10), Dark(10)
        one.hear("at", 3, 4)
        self.assertEqual(other.looks(), [])

    def test_steps_that_were_handed_in_are_not_changed_or_kept(self):
        steps = [(13, 14), (5, 6), (5, 6)]
        hand = Hand(10, steps)
        self.assertEqual(steps, [(13, 14), (5, 6), (5, 6)])
        steps.append((7, 99))
        steps[0] = (0, 0)
        self.assertEqual((hand.steps(), hand.lead(7)), ([(3, 4), (5, 6)], 6))

    def test_lists_that_a_told_hand_tells_are_new_ones(self):
        hand = Hand(10, [(0, 7), (5, 12)])
        for call, told in ((hand.steps, [(0, 7), (5, 12)]), (hand.homes, [2, 7]), (hand.gates, [(0, 2), (5, 7)])):
            first = call()
            first.append(None)
            first[0] = None
            self.assertEqual(call(), told)
            self.assertIsNot(call(), call())
        self.assertEqual((hand.lead(3), hand.back(8), hand.pace()), (7, 5, (1, 2)))

    def test_asking_a_told_hand_changes_nothing(self):
        hand, same = Hand(10, [(0, 7), (5, 12)]), Hand(10, [(0, 7), (5, 12)])
        for _ in range(2):
            told = (hand.lead(3), hand.lead(3, 9), hand.back(3), hand.uses(3, 40), hand.homes(), hand.gates(),
                    hand.led_back().steps(), hand.led_back().led_back().lead(4))
            self.assertEqual(told, (7, 47, 0, 8, [2, 7], [(0, 2), (5, 7)], hand.led_back().steps(), 8))
            with self.assertRaises(NoUses):
                hand.lead(3, -1)
            self.assertEqual(hand, same)

    def test_leads_and_texts_and_looks_that_were_handed_in_are_not_changed(self):
        leads, fraction, dark = [4, 9, 12, 15], (3, 7), dark_of(10, ("at", 3, 4))
        looking.followed(12, 1, leads)
        with self.assertRaises(Clash):
            looking.followed(12, 5, leads)
        self.assertEqual(leads, [4, 9, 12, 15])
        looking.neighbours(fraction, 3)
        self.assertEqual(fraction, (3, 7))
        texts.show_dark(dark)
        self.assertEqual(dark, dark_of(10, ("at", 3, 4)))
        with self.assertRaises(NoText):
            readings.read_dark("10; at 3 4; at 3 5")
        self.assertEqual(looking.followed(12, 1, leads), looking.followed(12, 1, leads))

    def test_numbers_that_a_told_hand_tells_are_whole(self):
        hand = readings.read_hand("10: 0 7, 5 12")
        for value in (hand.length(), hand.lead(0), hand.lead(0, 0), hand.back(1), hand.uses(0, 1), hand.uses(0, 0),
                      *hand.homes(), *hand.pace(), *hand.gates()[0], *hand.steps()[0], *Hand(1, [(0, 0)]).homes()):
            self.assertTrue(is_whole(value))
        for fraction in looking.neighbours((1, 3), 2) + looking.followed(10, 0, [3]):
            self.assertTrue(len(fraction) == 2 and is_whole(fraction[0]) and is_whole(fraction[1]))

    def test_numbers_that_are_told_are_whole(self):
        dark = dark_of(10, ("at", 3, 4), ("from", 5, 1))
        for value in (dark.length(), dark.least(1), dark.greatest(1), rounds.least_behind([dark], 1, 5),
                      rounds.greatest_behind([dark], 1, 0), rounds.fewest_uses([dark], 4, 5),
                      rounds.fewest_uses([dark], 4, 4), rounds.most_uses([dark], 4, 4)):
            self.assertTrue(is_whole(value))
        for fraction in paces.paces([dark]) + (paces.ring_pace([dark], "slow", [("at", 3, 4)]),):
            self.assertTrue(len(fraction) == 2 and is_whole(fraction[0]) and is_whole(fraction[1]))

    def test_no_number_that_is_told_is_a_truth(self):
        dark = dark_of(10, ("at", 0, 0))
        self.assertIs(type(dark.looks()[0][1]), int)
        with self.assertRaises(Clash) as caught:
            dark.hear("at", 10, 0)
        self.assertIs(type(caught.exception.what), tuple)
        with self.assertRaises(NoLook) as caught:
            dark.drop("upto", 10, 0)
        self.assertIs(type(caught.exception.what), tuple)


class TheWhole(unittest.TestCase):
    def test_in_whatever_order_looks_were_heard(self):
        looks = [("at", 3, 4), ("from", 5, 6), ("upto", 1, 4), ("at", 8, 13)]
        told = []
        for order in permutations(looks):
            dark = dark_of(10, *order)
            told.append((dark.looks(), dark.least(6), dark.greatest(6), paces.paces([dark]),
                         paces.ring([dark], "slow"), rounds.least_behind([dark], 0, 77)))
        self.assertEqual(told, [told[0]] * len(told))

    def test_asked_twice_the_same_is_told(self):
        dark = dark_of(10, ("at", 3, 4), ("from", 5, 6), ("upto", 1, 4), ("at", 8, 13))
        for side in SIDES:
            self.assertEqual(paces.ring([dark] * 2, side), paces.ring([dark] * 2, side))
        self.assertEqual(paces.paces([dark] * 2), paces.paces([dark] * 2))

    def test_a_pointer_that_starts_farther_on_is_never_behind(self):
        hands = [dark_of(10, ("at", 3, 4), ("from", 5, 6)), dark_of(10, ("upto", 1, 4), ("at", 8, 13))]
        for uses in range(6):
            for behind in (rounds.least_behind, rounds.greatest_behind):
                told = [behind(hands, x, uses) for x in range(-15, 25)]
                self.assertEqual(told, sorted(told))


class TheWholeOfToldHands(unittest.TestCase):
    def chance_hand(self, chance):
        length = chance.randint(1, 15)
        steps = [(x, x + chance.randint(0, 2 * length)) for x in range(0, length, chance.randint(1, 4))]
        return Hand(length, steps)

    def test_k_times_p_turns_on_take_q_times_k_uses_or_one_more(self):
        chance = random.Random(40)
        gates = gaps = 0
        for _ in range(200):
            hand = self.chance_hand(chance)
            length, (p, q) = hand.length(), hand.pace()
            inside = {x % length for a, home in hand.gates() for x in range(a, home + 1)}
            for x in range(length) if p > 0 else ():
                more = x not in inside
                self.assertEqual([hand.uses(x, x + k * p * length) for k in (1, 2, 3, 10 ** 50)],
                                 [q * k + more for k in (1, 2, 3, 10 ** 50)])
                gaps += more
                gates += not more
        self.assertGreater(min(gaps, gates), 100)

    def test_a_told_hand_fits_the_dark_that_looked_at_it(self):
        chance = random.Random(41)
        for _ in range(100):
            hand = self.chance_hand(chance)
            length, dark = hand.length(), Dark(hand.length())
            for _ in range(chance.randint(1, 5)):
                x = chance.randint(-20, 20)
                dark.hear("at", x, hand.lead(x))
            slow, fast = paces.paces([dark])
            self.assertTrue(Fraction(*slow) <= Fraction(*hand.pace()) <= Fraction(*fast))
            for x in range(length):
                for uses in (1, 2, 9, 10 ** 40):
                    self.assertLessEqual(rounds.least_behind([dark], x, uses), hand.lead(x, uses))
                    self.assertGreaterEqual(rounds.greatest_behind([dark], x, uses), hand.lead(x, uses))
                self.assertTrue(dark.led_back().least(x) is None or dark.led_back().least(x) <= hand.back(x))
                self.assertLessEqual(hand.back(x), dark.led_back().greatest(x))

    def test_the_least_and_the_greatest_hands_of_a_dark_told_whole(self):
        chance = random.Random(42)
        for _ in range(100):
            length = chance.randint(1, 8)
            dark = chance_dark(chance, length, 6)
            dark.hear("at", *self.a_place(dark))
            for bound, behind, told in zip((dark.least, dark.greatest), (rounds.least_behind, rounds.greatest_behind),
                                           paces.paces([dark])):
                hand = Hand(length, [(x, bound(x)) for x in range(length)])
                self.assertEqual(hand.pace(), told)
                for x in range(length):
                    self.assertEqual(hand.lead(x, 77), behind([dark], x, 77))

    def a_place(self, dark):
        """A place with one where a hand that fits leads it."""
        known = [place for place in (dark.least(0), dark.greatest(0)) if place is not None]
        return (0, known[0] if known else 3)

    def test_whoever_follows_a_told_hand_knows_its_neighbours(self):
        chance = random.Random(43)
        for _ in range(100):
            hand = self.chance_hand(chance)
            first, own = chance.randint(-20, 20), hand.pace()
            for many in (1, 2, 3, 5, 8, 16):
                leads = [hand.lead(first, uses) for uses in range(1, many + 1)]
                told = looking.followed(hand.length(), first, leads)
                if own[1] > many:
                    self.assertEqual(told, looking.neighbours(own, many))
                else:
                    self.assertIn(own, told)

    def test_a_text_tells_the_whole_of_a_hand(self):
        chance = random.Random(44)
        for _ in range(50):
            hand = self.chance_hand(chance)
            read = readings.read_hand(texts.show_hand(hand.led_back()))
            self.assertEqual((read.pace(), read.gates()), (hand.led_back().pace(), hand.led_back().gates()))


class Sizes(unittest.TestCase):
    """Lengths of thirty figures, places and uses of sixty, twenty-four looks, six hands."""

    def chance_hand(self, chance, length, words=("at", "from", "upto")):
        starts = sorted(chance.randrange(length) for _ in range(24))
        ends = sorted(chance.randrange(length) for _ in range(24))
        turns = chance.randrange(-10 ** 30, 10 ** 30) * length
        dark = dark_of(length, *[("at", starts[0], ends[0] + turns)])
        for x, y in zip(starts[1:], ends[1:]):
            dark.hear(chance.choice(words), x, y + turns)
        return dark

    def check_round(self, hands, chance):
        length = hands[0].length()
        for side, behind in (("slow", rounds.least_behind), ("fast", rounds.greatest_behind)):
            for uses in (5, 6, 1000, chance.randrange(10 ** 59, FAR), FAR):
                x = chance.randrange(-FAR, FAR)
                self.assertEqual(behind(hands, x, uses), chained_behind(hands, side, x, uses))
            looks = paces.ring(hands, side)
            told = paces.paces(hands)[side == "fast"]
            self.assertEqual(paces.ring_pace(hands, side, looks), told)
            self.assertEqual(pair(pace_of_ring(length, side, looks, len(hands))), told)
            self.assertLessEqual(len(looks), len(hands) * min(looked_at(dark, side) for dark in hands))
            many = 10 ** 59
            led = behind(hands, 0, many * len(hands))
            self.assertLessEqual(abs(Fraction(led, length) - many * Fraction(*told)), 1)

    def test_chance_hands(self):
        chance = random.Random(30)
        for _ in range(6):
            hands = [self.chance_hand(chance, HUGE) for _ in range(6)]
            self.assertEqual(len(hands[0].looks()), 24)
            self.check_round(hands, chance)
            self.check_round(hands[:1] * 5, chance)

    def test_hands_led_back(self):
        chance = random.Random(48)
        for _ in range(3):
            hands = [self.chance_hand(chance, HUGE, ("at",)).led_back() for _ in range(6)]
            self.assertEqual(len(hands[0].looks()), 48)
            self.check_round(hands, chance)
            self.check_round(hands[:1], chance)

    def even_hand(self, p, many=24):
        """A hand that turns evenly, p turns in so many uses."""
        step = 10 ** 28
        length = many * step
        return dark_of(length, *[("at", x, x + p * step) for x in range(0, length, step)])

    def test_rings_as_long_as_they_get(self):
        hand = self.even_hand(7)
        self.assertEqual(paces.paces([hand]), ((7, 24), (7, 24)))
        self.assertEqual(paces.paces([hand] * 5), ((35, 24), (35, 24)))
        for side in SIDES:
            self.assertEqual(len(paces.ring([hand], side)), 24)
            self.assertEqual(len(paces.ring([hand] * 5, side)), 120)
        back = hand.led_back()
        self.assertEqual(paces.paces([back] * 5), ((-35, 24), (-35, 24)))

    def test_a_ring_of_a_hundred_and_fifty_looks(self):
        hand = self.even_hand(7)
        looks = hand.looks()
        handed = [looks[number * number % 24] for number in range(150)]
        for side in SIDES:
            for many in (1, 2, 3, 5, 6):
                told = pair(pace_of_ring(hand.length(), side, handed, many))
                self.assertEqual(paces.ring_pace([hand] * many, side, handed), told)
            with self.assertRaises(NoRing) as caught:
                paces.ring_pace([hand] * 6, side, handed[:149] + [("at", 1, 1)])
            self.assertEqual(caught.exception.what, 149)

    def check_goal(self, hands, reach, behind, x, y):
        """That the uses told reach the goal, and none of those before: they rise from round to round."""
        uses = reach(hands, x, y)
        self.assertGreaterEqual(behind(hands, x, uses), y)
        for before in range(1, min(uses, len(hands)) + 1):
            self.assertLess(behind(hands, x, uses - before), y)

    def test_uses_to_far_goals(self):
        chance = random.Random(60)
        asked = 0
        for _ in range(12):
            hands = [self.chance_hand(chance, HUGE) for _ in range(chance.randint(1, 6))]
            for reach, behind, side in ((rounds.most_uses, rounds.least_behind, 0),
                                        (rounds.fewest_uses, rounds.greatest_behind, 1)):
                if paces.paces(hands)[side][0] > 0:
                    asked += 1
                    for y in (HUGE, FAR, chance.randrange(FAR)):
                        self.check_goal(hands, reach, behind, chance.randrange(-FAR, 0), y)
                else:
                    self.assertIsNone(reach(hands, 0, FAR * FAR))
        self.assertGreater(asked, 3)

    def test_uses_of_sixty_figures(self):
        for length, x, y in ((1, -FAR, FAR), (24, 5, FAR), (10 ** 29, -1, FAR)):
            hands = [dark_of(length, ("at", 0, 1 if length == 1 else length)), dark_of(length, ("at", 0, 0))] * 3
            for reach, behind in ((rounds.most_uses, rounds.least_behind),
                                  (rounds.fewest_uses, rounds.greatest_behind)):
                self.check_goal(hands, reach, behind, x, y)
        hands = [dark_of(1, ("at", 0, 1)), dark_of(1, ("at", 0, 0))]
        self.assertEqual(rounds.most_uses(hands, 0, FAR), 2 * FAR - 1)

    def test_a_pointer_that_is_long_on_its_way_before_it_rests(self):
        looks = [("at", x, x + 10) for x in range(0, 230, 10)] + [("at", 230, 230)]
        hand = dark_of(HUGE, *looks)
        self.assertEqual([rounds.least_behind([hand] * 6, 0, uses) for uses in (1, 22, 23, 24, FAR)],
                         [10, 220, 230, 230, 230])
        self.assertEqual([rounds.most_uses([hand] * 6, 0, y) for y in (1, 221, 230, 231)], [1, 23, 23, None])

    def test_places_that_were_told_are_handed_in_however_far(self):
        hand = dark_of(HUGE, ("at", 5, 5 + HUGE * FAR))
        place = 5
        for _ in range(20):
            place = rounds.greatest_behind([hand], place, FAR)
        self.assertEqual(place, 5 + 20 * FAR * FAR * HUGE)
        self.assertEqual(hand.least(place), place + HUGE * FAR)
        self.assertEqual(rounds.most_uses([hand], -place, place), 40 * FAR + 1)


if __name__ == "__main__":
    unittest.main()
