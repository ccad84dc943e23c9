"""[5], [6], [7] and the Dark led back of [18]."""

import random
import unittest

from darkpace.darks import Dark
from darkpace.errors import Clash, NoLength, NoLook, NoWord
from oracle import (
    Refusing, WORDS, all_hands, back_of, bounds, chance_dark, chance_look, dark_of, fitting, home, is_as, lead,
)


class Lengths(unittest.TestCase):
    def test_a_length_is_told(self):
        for length in (1, 2, 12, 10 ** 30 - 1):
            self.assertEqual(Dark(length).length(), length)

    def test_a_length_below_1_is_refused(self):
        for length in (0, -1, -10 ** 29):
            with self.assertRaises(NoLength) as caught:
                Dark(length)
            self.assertEqual(caught.exception.what, length)

    def test_a_new_dark_has_no_looks(self):
        self.assertEqual(Dark(3).looks(), [])


class Hearing(unittest.TestCase):
    def test_looks_are_told_in_the_order_of_tuples(self):
        dark = dark_of(10, ("upto", 3, 9), ("from", 2, 1), ("at", 7, 9), ("from", 1, -4), ("at", 5, 8))
        self.assertEqual(dark.looks(), [
            ("at", 5, 8), ("at", 7, 9), ("from", 1, -4), ("from", 2, 1), ("upto", 3, 9),
        ])

    def test_looks_are_told_as_tuples_in_a_list(self):
        looks = dark_of(10, ("from", 2, 1)).looks()
        self.assertIs(type(looks), list)
        self.assertIs(type(looks[0]), tuple)

    def test_hearing_and_dropping_tell_nothing(self):
        dark = Dark(4)
        self.assertIsNone(dark.hear("at", 1, 2))
        self.assertIsNone(dark.drop("at", 1, 2))

    def test_looks_are_brought_home(self):
        for x, y, there in ((10, 13, (0, 3)), (9, 2, (9, 2)), (-1, 5, (9, 15)), (-10, 0, (0, 10)),
                            (-41, 0, (9, 50)), (75, 3, (5, -67)), (7 * 10 ** 40 + 3, 0, (3, -7 * 10 ** 40))):
            for word in WORDS:
                self.assertEqual(dark_of(10, (word, x, y)).looks(), [(word,) + there])

    def test_length_1_has_one_place(self):
        dark = dark_of(1, ("from", 5, 7), ("upto", -3, 0))
        self.assertEqual(dark.looks(), [("from", 0, 2), ("upto", 0, 3)])
        self.assertEqual((dark.least(100), dark.greatest(100)), (102, 103))

    def test_a_look_heard_twice_is_told_once(self):
        dark = dark_of(10, ("at", 3, 4), ("at", 3, 4), ("at", 13, 14), ("at", -7, -6))
        self.assertEqual(dark.looks(), [("at", 3, 4)])
        dark.drop("at", 3, 4)
        self.assertEqual(dark.looks(), [])

    def test_looks_that_others_say_already_are_told(self):
        looks = [("at", 3, 4), ("from", 3, 4), ("from", 5, 1), ("upto", 1, 8), ("upto", 3, 4)]
        self.assertEqual(dark_of(10, *looks).looks(), looks)

    def test_the_order_of_hearing_does_not_matter(self):
        looks = [("at", 3, 4), ("from", 5, 1), ("upto", 1, 4)]
        self.assertEqual(dark_of(10, *looks).looks(), dark_of(10, *reversed(looks)).looks())


class Refusals(Refusing, unittest.TestCase):
    def test_a_word_that_no_look_has(self):
        dark = dark_of(10, ("at", 3, 4))
        for word in ("", "At", "to", "at ", "below"):
            for call in (dark.hear, dark.drop, dark.may, dark.sure):
                self.refused(NoWord, word, call, word, 3, 9)
        self.assertEqual(dark.looks(), [("at", 3, 4)])

    def test_a_clash_is_told_with_the_look_and_the_least_one_that_it_clashes_with(self):
        dark = dark_of(10, ("upto", 7, 5), ("upto", 2, 5), ("upto", 9, 8), ("from", 0, -9))
        self.refused(Clash, (("from", 1, 6), ("upto", 2, 5)), dark.hear, "from", 1, 6)
        self.refused(Clash, (("from", 3, 6), ("upto", 7, 5)), dark.hear, "from", 3, 6)
        self.refused(Clash, (("at", 8, 9), ("upto", 9, 8)), dark.hear, "at", 28, 29)
        self.refused(Clash, (("at", 0, -10), ("from", 0, -9)), dark.hear, "at", -10, -20)
        self.refused(Clash, (("upto", 5, -10), ("from", 0, -9)), dark.hear, "upto", 5, -10)
        self.assertEqual(dark.looks(), [("from", 0, -9), ("upto", 2, 5), ("upto", 7, 5), ("upto", 9, 8)])

    def test_words_come_before_other_looks_in_the_order_of_tuples(self):
        dark = dark_of(10, ("upto", 0, 0), ("at", 9, 3))
        self.refused(Clash, (("from", 0, 5), ("at", 9, 3)), dark.hear, "from", 0, 5)

    def test_looks_clash_round_the_dial(self):
        dark = dark_of(10, ("at", 9, 12))
        self.refused(Clash, (("at", 0, 1), ("at", 9, 12)), dark.hear, "at", 0, 1)
        dark.hear("at", 0, 2)
        dark = dark_of(10, ("from", 8, 5))
        self.refused(Clash, (("upto", 7, -6), ("from", 8, 5)), dark.hear, "upto", 7, -6)
        dark.hear("upto", 7, -5)

    def test_looks_that_some_hand_fits_do_not_clash(self):
        dark = dark_of(10, ("from", 3, 4), ("upto", 3, 4), ("at", 3, 4))
        self.assertEqual((dark.least(3), dark.greatest(3)), (4, 4))

    def test_a_look_that_was_not_heard_is_not_dropped(self):
        dark = dark_of(10, ("at", 3, 4), ("from", 5, 1))
        self.refused(NoLook, ("from", 3, 4), dark.drop, "from", 3, 4)
        self.refused(NoLook, ("at", 3, 5), dark.drop, "at", 13, 15)
        self.refused(NoLook, ("upto", 9, 11), dark.drop, "upto", -1, 1)
        self.assertEqual(dark.looks(), [("at", 3, 4), ("from", 5, 1)])

    def test_nothing_is_dropped_of_a_dark_without_looks(self):
        self.refused(NoLook, ("at", 0, 0), Dark(1).drop, "at", 4, 4)


class Dropping(unittest.TestCase):
    def test_a_look_is_dropped_from_any_turn(self):
        dark = dark_of(10, ("at", 3, 4), ("from", 5, 1))
        dark.drop("at", -7, -6)
        self.assertEqual(dark.looks(), [("from", 5, 1)])

    def test_what_was_dropped_is_no_longer_known(self):
        dark = dark_of(10, ("at", 3, 4))
        dark.drop("at", 3, 4)
        self.assertEqual((dark.least(3), dark.greatest(3)), (None, None))
        dark.hear("at", 3, 9)
        self.assertEqual(dark.least(3), 9)

    def test_what_other_looks_say_stays_known(self):
        dark = dark_of(10, ("at", 3, 4), ("from", 3, 4))
        dark.drop("at", 3, 4)
        self.assertEqual((dark.least(3), dark.greatest(3)), (4, None))


class Bounds(unittest.TestCase):
    def test_without_looks_of_a_side_there_is_no_bound(self):
        for looks, told in (((), (None, None)), ((("from", 0, 1),), (1, None)),
                            ((("upto", 0, 1),), (None, 1)), ((("at", 0, 1),), (1, 1)),
                            ((("from", 0, 1), ("upto", 1, 4)), (1, 4))):
            dark = dark_of(10, *looks)
            self.assertEqual((dark.least(0), dark.greatest(0)), told)

    def test_bounds_step_at_the_looks(self):
        dark = dark_of(10, ("at", 2, 5), ("from", 4, 6), ("upto", 6, 9), ("at", 8, 13))
        self.assertEqual([dark.least(x) for x in range(0, 12)], [3, 3, 5, 5, 6, 6, 6, 6, 13, 13, 13, 13])
        self.assertEqual([dark.greatest(x) for x in range(0, 12)], [5, 5, 5, 9, 9, 9, 9, 13, 13, 15, 15, 15])

    def test_bounds_are_the_same_a_turn_on(self):
        dark = dark_of(10, ("at", 2, 5), ("from", 4, 6), ("upto", 6, 9), ("at", 8, 13))
        for turns in (-10 ** 59, -3, -1, 1, 2, 10 ** 59):
            for x in range(10):
                self.assertEqual(dark.least(x + 10 * turns), dark.least(x) + 10 * turns)
                self.assertEqual(dark.greatest(x + 10 * turns), dark.greatest(x) + 10 * turns)

    def test_one_look_binds_all_places(self):
        dark = dark_of(10, ("at", 3, 4))
        self.assertEqual([dark.least(x) for x in (2, 3, 12, 13)], [-6, 4, 4, 14])
        self.assertEqual([dark.greatest(x) for x in (3, 4, 13, 14)], [4, 14, 14, 24])

    def test_a_look_far_ahead_says_more_of_a_place_than_a_near_one(self):
        dark = dark_of(10, ("from", 3, 4), ("from", 2, 30), ("upto", 5, 90), ("upto", 8, 40))
        self.assertEqual((dark.least(3), dark.greatest(4)), (30, 40))


class MayAndSure(unittest.TestCase):
    def test_a_look_may_be_where_it_would_not_be_refused(self):
        dark = dark_of(10, ("from", 3, 4), ("upto", 5, 8))
        told = [[dark.may(word, 4, y) for y in (3, 4, 8, 9)] for word in WORDS]
        self.assertEqual(told, [[False, True, True, False], [True, True, True, False], [False, True, True, True]])

    def test_a_look_is_sure_where_every_hand_is_so(self):
        dark = dark_of(10, ("from", 3, 4), ("upto", 5, 8))
        told = [[dark.sure(word, 4, y) for y in (3, 4, 8, 9)] for word in WORDS]
        self.assertEqual(told, [[False] * 4, [True, True, False, False], [False, False, True, True]])

    def test_at_is_sure_where_both_sides_meet(self):
        dark = dark_of(10, ("from", 3, 4), ("upto", 5, 4))
        for x in (3, 4, 5, 15):
            self.assertIs(dark.sure("at", x, x // 10 * 10 + 4), True)
            self.assertIs(dark.sure("at", x, x // 10 * 10 + 5), False)
        self.assertIs(dark.sure("at", 6, 4), False)

    def test_without_looks_all_may_be_and_nothing_is_sure(self):
        dark = Dark(3)
        for word in WORDS:
            self.assertIs(dark.may(word, 2, -10 ** 60), True)
            self.assertIs(dark.sure(word, 2, -10 ** 60), False)
            self.assertIs(dark.sure(word, 2, 10 ** 60), False)

    def test_with_one_side_the_other_one_is_not_sure(self):
        self.assertIs(dark_of(3, ("from", 0, 1)).sure("upto", 0, 10 ** 9), False)
        self.assertIs(dark_of(3, ("upto", 0, 1)).sure("from", 0, -10 ** 9), False)
        self.assertIs(dark_of(3, ("from", 0, 1)).sure("at", 0, 1), False)
        self.assertIs(dark_of(3, ("upto", 0, 1)).sure("at", 0, 1), False)

    def test_asking_changes_nothing(self):
        dark = dark_of(10, ("from", 3, 4))
        dark.may("upto", 3, 1)
        dark.may("upto", 3, 9)
        dark.sure("upto", 3, 9)
        self.assertEqual(dark.looks(), [("from", 3, 4)])


class Likeness(unittest.TestCase):
    def test_darks_are_alike_by_lengths_and_looks(self):
        one = dark_of(10, ("at", 3, 4), ("from", 5, 1))
        other = dark_of(10, ("from", -5, -9), ("at", 13, 14))
        self.assertTrue(one == other)
        self.assertFalse(one != other)

    def test_darks_of_other_lengths_or_looks_are_not_alike(self):
        one = dark_of(10, ("at", 3, 4))
        for other in (Dark(10), dark_of(11, ("at", 3, 4)), dark_of(10, ("from", 3, 4)),
                      dark_of(10, ("at", 3, 4), ("from", 3, 4))):
            self.assertFalse(one == other)
            self.assertTrue(one != other)
        self.assertTrue(Dark(1) != Dark(2))
        self.assertTrue(Dark(2) == Dark(2))

    def test_a_dark_is_like_nothing_else(self):
        for other in (None, 10, [], "Dark"):
            self.assertFalse(Dark(10) == other)
            self.assertTrue(Dark(10) != other)

    def test_a_look_dropped_makes_alike_again(self):
        one = dark_of(10, ("at", 3, 4), ("from", 0, 0))
        one.drop("from", 0, 0)
        self.assertTrue(one == dark_of(10, ("at", 3, 4)))


class LedBack(unittest.TestCase):
    def test_each_look_is_led_back(self):
        for look, told in ((("at", 3, 5), [("from", 6, 4), ("upto", 5, 3)]),
                           (("from", 3, 5), [("upto", 5, 3)]),
                           (("upto", 3, 5), [("from", 6, 4)]),
                           (("at", 3, 9), [("from", 0, -6), ("upto", 9, 3)]),
                           (("from", 3, -12), [("upto", 8, 23)])):
            self.assertEqual(dark_of(10, look).led_back().looks(), told)

    def test_it_is_a_new_dark_of_the_same_length(self):
        dark = dark_of(10, ("at", 3, 5))
        back = dark.led_back()
        self.assertIs(type(back), Dark)
        self.assertEqual(back.length(), 10)
        back.drop("upto", 5, 3)
        back.hear("upto", 5, 4)
        self.assertEqual(dark.looks(), [("at", 3, 5)])
        dark.hear("from", 0, 0)
        self.assertEqual(back.looks(), [("from", 6, 4), ("upto", 5, 4)])

    def test_looks_that_say_the_same_led_back_are_told_once(self):
        dark = dark_of(10, ("at", 3, 5), ("from", 3, 5), ("upto", 3, 5))
        self.assertEqual(dark.led_back().looks(), [("from", 6, 4), ("upto", 5, 3)])

    def test_a_dark_without_looks_led_back_has_none(self):
        self.assertEqual(Dark(1).led_back(), Dark(1))

    def test_hands_fit_just_where_led_back_they_fit_the_dark_led_back(self):
        chance = random.Random(18)
        for _ in range(120):
            length = chance.randint(1, 3)
            dark = chance_dark(chance, length, chance.randint(0, 5))
            looks, back_looks = dark.looks(), dark.led_back().looks()
            for hand in all_hands(length, -3 * length, 3 * length):
                back = back_of(hand)
                self.assertEqual(all(is_as(hand, look) for look in looks),
                                 all(is_as(back, look) for look in back_looks))

    def test_led_back_twice_each_place_is_led_one_on(self):
        dark = dark_of(10, ("at", 2, 5), ("from", 4, 6), ("upto", 6, 9))
        twice = dark.led_back().led_back()
        for x in range(-10, 20):
            self.assertEqual(twice.least(x), dark.least(x - 1) + 1)
            self.assertEqual(twice.greatest(x), dark.greatest(x - 1) + 1)


class AllHands(unittest.TestCase):
    """For small dials: just what all hands that fit say, gone through one by one."""

    def test_bounds_and_what_may_be_and_what_is_sure(self):
        chance = random.Random(7)
        for _ in range(150):
            length = chance.choice((1, 2, 2, 3, 3, 4))
            dark = chance_dark(chance, length, chance.randint(0, 6))
            near = fitting(length, dark.looks(), 4 * length)
            far = fitting(length, dark.looks(), 6 * length)
            for x in range(-length, 2 * length):
                told = bounds([lead(hand, x) for hand in near], [lead(hand, x) for hand in far])
                self.assertEqual((dark.least(x), dark.greatest(x)), told)
                for y in range(-2 * length, 3 * length):
                    for word in WORDS:
                        so = [is_as(hand, (word, x, y)) for hand in far]
                        self.assertIs(dark.may(word, x, y), any(so))
                        self.assertIs(dark.sure(word, x, y), all(so))

    def test_looks_are_refused_just_where_no_hand_fits_two(self):
        chance = random.Random(6)
        for _ in range(150):
            length = chance.choice((1, 2, 3))
            dark, heard = Dark(length), []
            for _ in range(8):
                look = chance_look(chance, length)
                there = home(length, look)
                clashing = [other for other in sorted(heard) if not fitting(length, [other, there], 7 * length)]
                if clashing:
                    with self.assertRaises(Clash) as caught:
                        dark.hear(*look)
                    self.assertEqual(caught.exception.what, (there, clashing[0]))
                else:
                    dark.hear(*look)
                    if there not in heard:
                        heard.append(there)
                self.assertEqual(dark.looks(), sorted(heard))
            self.assertTrue(fitting(length, heard, 6 * length))

    def test_some_hand_leads_every_place_to_the_least_and_some_to_the_greatest(self):
        chance = random.Random(77)
        for _ in range(100):
            length = chance.choice((1, 2, 3, 4))
            dark = chance_dark(chance, length, chance.randint(1, 6))
            hands = fitting(length, dark.looks(), 6 * length)
            if dark.least(0) is not None:
                self.assertIn(tuple(dark.least(x) for x in range(length)), hands)
            if dark.greatest(0) is not None:
                self.assertIn(tuple(dark.greatest(x) for x in range(length)), hands)


if __name__ == "__main__":
    unittest.main()
