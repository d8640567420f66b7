"""What can be a hall, who holds it, and what it refuses."""

import copy
import unittest

from duehall.errors import NoDeeds, NoMoment, NoRunner, NoTerm, NotHolder, Nothing, NoZone
from duehall.hall import Hall
from samples import MIXED, ONE, PLAIN, SHIFTED, all_told, no_deeds, no_wholes, no_zones

PLANS = (("once", 0), ("once", 9999), ("every", 0, 1), ("every", 9999, 999), ("daily", 0), ("daily", 23))
LATES = ("all", "last", ("within", 0), ("within", 999))


class Made(unittest.TestCase):
    def test_of_no_deed_of_one_and_of_six(self):
        for many in (0, 1, 2, 6):
            hall = Hall(SHIFTED, ONE * many)
            self.assertEqual(hall.waiting(), [0] * many)
            self.assertEqual(hall.log(), [])
            self.assertEqual(hall.held(), (None, 0, 0))

    def test_of_each_plan_each_rule_for_late_ones_and_both_again(self):
        for plan in PLANS:
            for late in LATES:
                for again in (True, False):
                    hall = Hall(PLAIN, ((plan, late, again),))
                    self.assertTrue(hall.take(0, 9999, 1))
                    self.assertEqual(hall.step(0, 9999)[1:], (0, 0))

    def test_what_is_no_zone(self):
        for zone in no_zones():
            with self.assertRaises(NoZone):
                Hall(zone, MIXED)

    def test_what_are_no_deeds(self):
        for deeds in no_deeds():
            with self.assertRaises(NoDeeds):
                Hall(SHIFTED, deeds)

    def test_named_ones_that_are_no_deeds(self):
        once = ("once", 5)
        for deeds in (ONE * 7, list(ONE), (list(ONE[0]),), ((once, "all", 0),), ((once, "all", 1),),
                      ((("never", 5), "all", True),), ((once, ("within", -1), True),), ((once, ("within", 1000), True),),
                      ((once, ("within", True), True),), ((("once", True), "all", True),)):
            with self.assertRaises(NoDeeds):
                Hall(SHIFTED, deeds)

    def test_zone_is_refused_first(self):
        for deeds in no_deeds():
            with self.assertRaises(NoZone):
                Hall((15, ()), deeds)


class Holds(unittest.TestCase):
    def setUp(self):
        self.hall = Hall(PLAIN, ONE)

    def test_at_first_nobody_holds_it(self):
        self.assertEqual(self.hall.held(), (None, 0, 0))
        for runner in range(4):
            with self.assertRaises(NotHolder):
                self.hall.step(runner, 0)

    def test_each_runner_can_take_it(self):
        for runner in range(4):
            hall = Hall(PLAIN, ONE)
            self.assertIs(hall.take(runner, 7, 10), True)
            self.assertEqual(hall.held(), (runner, 17, 1))
            self.assertEqual(hall.step(runner, 7), ("begun", 0, 0))

    def test_terms_and_moments_at_their_bounds(self):
        self.assertIs(self.hall.take(0, 0, 1), True)
        self.assertEqual(self.hall.held(), (0, 1, 1))
        self.assertIs(self.hall.take(0, 9999, 99), True)
        self.assertEqual(self.hall.held(), (0, 10098, 2))

    def test_another_one_does_not_get_it(self):
        self.hall.take(0, 5, 10)
        for moment in (5, 14):
            for runner in (1, 2, 3):
                self.assertIs(self.hall.take(runner, moment, 99), False)
                self.assertEqual(self.hall.held(), (0, 15, 1))
                with self.assertRaises(NotHolder):
                    self.hall.step(runner, moment)
        self.assertEqual(self.hall.step(0, 14), ("begun", 0, 0))

    def test_last_moment_at_which_it_is_held(self):
        self.hall.take(0, 5, 10)
        self.assertEqual(self.hall.step(0, 14), ("begun", 0, 0))
        for call in (self.hall.step, self.hall.give, self.hall.finish):
            with self.assertRaises(NotHolder):
                call(0, 15)
        self.assertEqual(self.hall.held(), (0, 15, 1))

    def test_another_one_takes_it_when_the_term_is_over(self):
        self.hall.take(0, 5, 10)
        self.assertIs(self.hall.take(1, 14, 10), False)
        self.assertIs(self.hall.take(1, 15, 10), True)
        self.assertEqual(self.hall.held(), (1, 25, 2))
        with self.assertRaises(NotHolder):
            self.hall.step(0, 15)

    def test_the_same_one_takes_it_when_the_term_is_over(self):
        self.hall.take(0, 5, 10)
        self.assertIs(self.hall.take(0, 15, 3), True)
        self.assertEqual(self.hall.held(), (0, 18, 2))

    def test_held_longer_is_the_same_hold(self):
        self.hall.take(0, 5, 10)
        self.assertIs(self.hall.take(0, 5, 10), True)
        self.assertIs(self.hall.take(0, 14, 20), True)
        self.assertEqual(self.hall.held(), (0, 34, 1))
        self.assertIs(self.hall.take(1, 33, 1), False)
        self.assertIs(self.hall.take(1, 34, 1), True)

    def test_held_for_a_shorter_term_than_was_left(self):
        self.hall.take(0, 5, 50)
        self.assertIs(self.hall.take(0, 10, 2), True)
        self.assertEqual(self.hall.held(), (0, 12, 1))
        self.assertIs(self.hall.take(1, 11, 5), False)
        self.assertIs(self.hall.take(1, 12, 5), True)
        self.assertEqual(self.hall.held(), (1, 17, 2))

    def test_given_up(self):
        self.hall.take(0, 5, 10)
        self.assertIsNone(self.hall.give(0, 8))
        self.assertEqual(self.hall.held(), (None, 15, 1))
        for call in (self.hall.step, self.hall.give, self.hall.finish):
            with self.assertRaises(NotHolder):
                call(0, 8)

    def test_given_up_and_taken_by_the_same_one(self):
        self.hall.take(0, 5, 10)
        self.hall.give(0, 8)
        self.assertIs(self.hall.take(0, 8, 4), True)
        self.assertEqual(self.hall.held(), (0, 12, 2))

    def test_given_up_and_taken_by_another_one(self):
        self.hall.take(0, 5, 10)
        self.hall.give(0, 5)
        self.assertIs(self.hall.take(3, 5, 4), True)
        self.assertEqual(self.hall.held(), (3, 9, 2))

    def test_held_tells_who_took_it_last_behind_its_term(self):
        self.hall.take(2, 5, 10)
        with self.assertRaises(NotHolder):
            self.hall.step(2, 99)
        self.assertEqual(self.hall.held(), (2, 15, 1))

    def test_nobody_else_gives_it_up(self):
        self.hall.take(0, 5, 10)
        with self.assertRaises(NotHolder):
            self.hall.give(1, 6)
        self.assertEqual(self.hall.held(), (0, 15, 1))


class Refused(unittest.TestCase):
    def setUp(self):
        self.hall = Hall(PLAIN, ONE + MIXED)
        self.hall.take(0, 20, 30)
        self.assertEqual(self.hall.step(0, 21), ("begun", 0, 0))

    def refuse(self, refusal, method, *handed):
        before = all_told(self.hall)
        with self.assertRaises(refusal):
            getattr(self.hall, method)(*handed)
        self.assertEqual(all_told(self.hall), before)

    def test_no_runner(self):
        for runner in no_wholes(0, 3):
            self.refuse(NoRunner, "take", runner, 22, 5)
            for method in ("give", "step", "finish"):
                self.refuse(NoRunner, method, runner, 22)

    def test_no_moment(self):
        for moment in no_wholes(0, 9999):
            self.refuse(NoMoment, "take", 0, moment, 5)
            for method in ("give", "step", "finish"):
                self.refuse(NoMoment, method, 0, moment)

    def test_a_moment_less_than_the_last_one(self):
        for moment in (0, 19, 20):
            self.refuse(NoMoment, "take", 0, moment, 5)
            for method in ("give", "step", "finish"):
                self.refuse(NoMoment, method, 0, moment)
        self.assertEqual(self.hall.finish(0, 21)[0], "done")

    def test_no_term(self):
        for term in no_wholes(1, 99) + [0, 100]:
            self.refuse(NoTerm, "take", 0, 22, term)
            self.refuse(NoTerm, "take", 1, 22, term)

    def test_not_holder(self):
        for method in ("give", "step", "finish"):
            self.refuse(NotHolder, method, 1, 22)
            self.refuse(NotHolder, method, 0, 50)

    def test_nothing_begun(self):
        self.hall.finish(0, 22)
        self.refuse(Nothing, "finish", 0, 23)

    def test_nothing_begun_in_this_hold(self):
        self.hall.give(0, 22)
        self.hall.take(0, 22, 5)
        self.refuse(Nothing, "finish", 0, 23)

    def test_first_named_is_first_told(self):
        self.refuse(NoRunner, "take", 4, 20, 0)
        self.refuse(NoRunner, "take", -1, 22, 0)
        self.refuse(NoMoment, "take", 0, 20, 0)
        self.refuse(NoMoment, "take", 0, 10000, 100)
        for method in ("give", "step", "finish"):
            self.refuse(NoRunner, method, 4, 20)
            self.refuse(NoRunner, method, True, 22)
            self.refuse(NoMoment, method, 1, 20)
            self.refuse(NoMoment, method, 1, 10000)
        self.hall.finish(0, 22)
        self.refuse(NotHolder, "finish", 1, 22)
        self.refuse(NotHolder, "finish", 0, 50)

    def test_the_last_moment_stays_as_it_was(self):
        self.refuse(NotHolder, "step", 1, 40)
        self.refuse(NotHolder, "give", 2, 41)
        self.refuse(NoTerm, "take", 0, 42, 0)
        self.refuse(NoRunner, "take", 4, 43, 1)
        self.assertEqual(self.hall.finish(0, 21)[0], "done")
        self.refuse(Nothing, "finish", 0, 40)
        self.assertIs(self.hall.take(0, 21, 5), True)

    def test_each_kind_of_call_moves_the_last_moment(self):
        self.hall.finish(0, 22)
        self.refuse(NoMoment, "step", 0, 21)
        self.hall.step(0, 23)
        self.refuse(NoMoment, "step", 0, 22)
        self.hall.step(0, 24)
        self.refuse(NoMoment, "step", 0, 23)
        self.hall.take(0, 25, 10)
        self.refuse(NoMoment, "step", 0, 24)
        self.hall.take(1, 26, 10)
        self.refuse(NoMoment, "step", 0, 25)
        self.hall.give(0, 27)
        self.refuse(NoMoment, "take", 0, 26, 5)
        self.assertIs(self.hall.take(0, 27, 5), True)


class HandedIn(unittest.TestCase):
    def test_zone_and_deeds_are_as_they_were(self):
        zone = copy.deepcopy(SHIFTED)
        deeds = copy.deepcopy(MIXED)
        hall = Hall(zone, deeds)
        hall.take(0, 0, 99)
        for moment in range(60):
            hall.step(0, moment)
        self.assertEqual((zone, deeds), (SHIFTED, MIXED))

    def test_two_halls_do_not_touch_one_another(self):
        one = Hall(SHIFTED, MIXED)
        other = Hall(SHIFTED, MIXED)
        before = all_told(other)
        one.take(0, 20, 30)
        one.step(0, 21)
        one.step(0, 22)
        one.finish(0, 23)
        self.assertEqual(all_told(other), before)
        self.assertIs(other.take(1, 5, 10), True)
        self.assertEqual(one.held(), (0, 50, 1))

    def test_the_same_calls_give_equal_answers(self):
        halls = (Hall(SHIFTED, MIXED), Hall(tuple(list(SHIFTED)), tuple(list(MIXED))))
        for hall in halls:
            hall.take(0, 20, 30)
            hall.step(0, 21)
        self.assertEqual(all_told(halls[0]), all_told(halls[1]))

    def test_told_lists_are_new_ones(self):
        hall = Hall(SHIFTED, MIXED)
        for moment in (20, 30):
            for told in (hall.log, hall.waiting):
                before = list(told())
                told().append("more")
                told().clear()
                self.assertEqual(told(), before)
            hall.take(0, moment, 50)
            hall.step(0, moment)


if __name__ == "__main__":
    unittest.main()
