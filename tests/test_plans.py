import copy
import random
import unittest

from duehall.errors import NoCount, NoMoment, NoPlan, NoZone
from duehall.plans import due, dues
from duehall.zones import moments
from samples import PLAIN, SHIFTED, SIX, hours_shown, no_plans, no_wholes, no_zones, random_zone

PLANS = (("once", 0), ("once", 77), ("once", 9999), ("every", 0, 1), ("every", 5, 7), ("every", 9999, 999),
         ("daily", 0), ("daily", 5), ("daily", 23))


def daily_walk(zone, hour, many):
    """The first so many daily times, found by walking moment by moment."""
    goal = -1 * 24 + hour
    while goal < hours_shown(zone, 0):
        goal += 24
    told = []
    moment = 0
    while len(told) < many:
        while len(told) < many and hours_shown(zone, moment) >= goal:
            told.append(moment)
            goal += 24
        moment += 1
    return told


class Once(unittest.TestCase):
    def test_has_one_time(self):
        self.assertEqual([due(PLAIN, ("once", 5), count) for count in (0, 1, 2, 9999)], [5, None, None, None])
        self.assertEqual(due(SHIFTED, ("once", 0), 0), 0)
        self.assertEqual(due(SHIFTED, ("once", 9999), 0), 9999)

    def test_dues(self):
        self.assertEqual(dues(PLAIN, ("once", 5), 0, 9999), [(0, 5)])
        self.assertEqual(dues(PLAIN, ("once", 5), 5, 5), [(0, 5)])
        self.assertEqual(dues(PLAIN, ("once", 5), 0, 4), [])
        self.assertEqual(dues(PLAIN, ("once", 5), 6, 9999), [])


class Every(unittest.TestCase):
    def test_at_first_and_each_step_later(self):
        self.assertEqual([due(PLAIN, ("every", 10, 3), count) for count in range(4)], [10, 13, 16, 19])
        self.assertEqual([due(PLAIN, ("every", 0, 1), count) for count in (0, 1, 9999)], [0, 1, 9999])

    def test_without_end(self):
        self.assertEqual(due(PLAIN, ("every", 9999, 1), 1), 10000)
        self.assertEqual(due(PLAIN, ("every", 9999, 999), 9999), 9999 + 999 * 9999)

    def test_the_wall_does_not_touch_it(self):
        for zone in (SHIFTED, SIX, (-12, ())):
            self.assertEqual([due(zone, ("every", 10, 30), count) for count in range(4)], [10, 40, 70, 100])

    def test_dues(self):
        self.assertEqual(dues(PLAIN, ("every", 10, 3), 13, 19), [(1, 13), (2, 16), (3, 19)])
        self.assertEqual(dues(PLAIN, ("every", 10, 3), 14, 18), [(2, 16)])
        self.assertEqual(dues(PLAIN, ("every", 10, 3), 14, 15), [])
        self.assertEqual(dues(PLAIN, ("every", 9999, 1), 0, 9999), [(0, 9999)])
        self.assertEqual(dues(PLAIN, ("every", 0, 999), 9000, 9999), [(10, 9990)])
        self.assertEqual(dues(PLAIN, ("every", 0, 1), 0, 9999), [(at, at) for at in range(10000)])


class Daily(unittest.TestCase):
    def times(self, zone, hour, many=4):
        return [due(zone, ("daily", hour), count) for count in range(many)]

    def test_without_shifts(self):
        self.assertEqual(self.times(PLAIN, 0), [0, 24, 48, 72])
        self.assertEqual(self.times(PLAIN, 23), [23, 47, 71, 95])
        self.assertEqual(self.times((3, ()), 7), [4, 28, 52, 76])

    def test_first_day_is_the_one_whose_hour_is_not_past(self):
        self.assertEqual(self.times((14, ()), 13, 2), [23, 47])
        self.assertEqual(self.times((14, ()), 14, 2), [0, 24])
        self.assertEqual(self.times((14, ()), 15, 2), [1, 25])

    def test_where_the_wall_shows_day_minus_one_at_first(self):
        self.assertEqual(self.times((-12, ()), 11, 2), [23, 47])
        self.assertEqual(self.times((-12, ()), 12, 2), [0, 24])
        self.assertEqual(self.times((-12, ()), 23, 2), [11, 35])
        self.assertEqual(self.times((-12, ()), 0, 2), [12, 36])

    def test_first_day_by_moment_0_alone(self):
        # Put back at 1, the wall shows hours again that lie ahead of what it showed at first.
        self.assertEqual(self.times((10, ((1, 0),)), 5, 2), [29, 53])
        self.assertEqual(self.times((0, ((5, -12),)), 17, 2), [29, 53])

    def test_skipped_hour_has_its_time_at_the_leap(self):
        # Hour 5 of day 4 is skipped at 100.
        self.assertEqual(self.times(SHIFTED, 5, 7), [4, 28, 52, 76, 100, 123, 147])
        self.assertEqual(moments(SHIFTED, 4, 5), [])

    def test_hour_that_comes_twice_has_one_time(self):
        # Hour 7 of day 8 is shown at 197 and at 200.
        self.assertEqual(self.times(SHIFTED, 7, 10)[7:], [173, 197, 224])
        self.assertEqual(moments(SHIFTED, 8, 7), [197, 200])

    def test_put_back_the_first_moment_counts(self):
        # The wall shows 11 and more at 1 for a moment, then less again.
        zone = (0, ((1, 14), (2, 0)))
        self.assertEqual(self.times(zone, 11, 2), [1, 35])
        self.assertEqual(self.times(zone, 15, 2), [1, 39])
        self.assertEqual(self.times(zone, 16, 2), [16, 40])

    def test_several_days_at_one_moment(self):
        zone = (-12, ((12, 14),))
        # At 11 the wall shows hour 23 of day -1, at 12 hour 2 of day 1.
        self.assertEqual(self.times(zone, 0, 4), [12, 12, 34, 58])
        self.assertEqual(self.times(zone, 2, 4), [12, 12, 36, 60])
        self.assertEqual(self.times(zone, 3, 4), [12, 13, 37, 61])
        self.assertEqual(dues(zone, ("daily", 0), 0, 40), [(0, 12), (1, 12), (2, 34)])
        self.assertEqual(dues(zone, ("daily", 0), 12, 12), [(0, 12), (1, 12)])

    def test_late_days_have_their_times_too(self):
        self.assertEqual(due(PLAIN, ("daily", 0), 9999), 239976)
        self.assertEqual(due((14, ()), ("daily", 13), 9999), 10000 * 24 + 13 - 14)
        self.assertEqual(due((0, ((9999, -12),)), ("daily", 23), 9999), 9999 * 24 + 23 + 12)

    def test_dues(self):
        self.assertEqual(dues(SHIFTED, ("daily", 5), 52, 123), [(2, 52), (3, 76), (4, 100), (5, 123)])
        self.assertEqual(dues(SHIFTED, ("daily", 5), 53, 122), [(3, 76), (4, 100)])
        self.assertEqual(dues(SHIFTED, ("daily", 7), 200, 223), [])
        self.assertEqual(dues(PLAIN, ("daily", 15), 9976, 9999), [(416, 9999)])
        self.assertEqual(dues(PLAIN, ("daily", 15), 9975, 9998), [(415, 9975)])

    def test_as_a_walk_finds_in_many_zones(self):
        chance = random.Random(13)
        for _ in range(400):
            zone = random_zone(chance, chance.choice((10, 30, 90)))
            for hour in chance.sample(range(24), 8):
                self.assertEqual(self.times(zone, hour, 8), daily_walk(zone, hour, 8), (zone, hour))


class Dues(unittest.TestCase):
    def test_the_same_as_due_one_by_one(self):
        chance = random.Random(14)
        for _ in range(60):
            zone = random_zone(chance, 300)
            first = chance.randint(0, 300)
            last = first + chance.randint(0, 200)
            for plan in PLANS + (("every", chance.randint(0, 200), chance.randint(1, 40)),):
                told = [(count, due(zone, plan, count)) for count in range(600)]
                within = [row for row in told if row[1] is not None and first <= row[1] <= last]
                self.assertEqual(dues(zone, plan, first, last), within, (zone, plan, first, last))

    def test_last_less_than_first(self):
        for plan in PLANS:
            self.assertEqual(dues(SHIFTED, plan, 78, 76), [])
            self.assertEqual(dues(SHIFTED, plan, 9999, 0), [])

    def test_told_is_a_list_of_tuples(self):
        told = dues(PLAIN, ("every", 0, 5), 0, 20)
        self.assertIs(type(told), list)
        self.assertEqual({type(row) for row in told}, {tuple})


class Refused(unittest.TestCase):
    def test_no_zone(self):
        for zone in no_zones():
            for plan in PLANS:
                with self.assertRaises(NoZone):
                    due(zone, plan, 0)
                with self.assertRaises(NoZone):
                    dues(zone, plan, 0, 5)

    def test_no_plan(self):
        for plan in no_plans():
            with self.assertRaises(NoPlan):
                due(SHIFTED, plan, 0)
            with self.assertRaises(NoPlan):
                dues(SHIFTED, plan, 0, 5)

    def test_plans_at_the_bounds_are_none_refused(self):
        for plan in (("once", 0), ("once", 9999), ("every", 0, 1), ("every", 9999, 999), ("daily", 0), ("daily", 23)):
            due(SHIFTED, plan, 0)
            due(SHIFTED, plan, 9999)
            dues(SHIFTED, plan, 0, 9999)

    def test_no_count(self):
        for plan in PLANS:
            for count in no_wholes(0, 9999):
                with self.assertRaises(NoCount):
                    due(SHIFTED, plan, count)

    def test_no_moment(self):
        for plan in PLANS:
            for moment in no_wholes(0, 9999):
                with self.assertRaises(NoMoment):
                    dues(SHIFTED, plan, moment, 5)
                with self.assertRaises(NoMoment):
                    dues(SHIFTED, plan, 5, moment)

    def test_first_named_is_first_told(self):
        with self.assertRaises(NoZone):
            due((15, ()), ("once", -1), -1)
        with self.assertRaises(NoPlan):
            due(PLAIN, ("once", -1), -1)
        with self.assertRaises(NoZone):
            due((15, ()), ("once", 5), -1)
        with self.assertRaises(NoZone):
            dues((15, ()), ("once", -1), -1, -1)
        with self.assertRaises(NoPlan):
            dues(PLAIN, ("once", -1), -1, -1)
        with self.assertRaises(NoZone):
            dues((15, ()), ("once", 5), -1, 5)


class HandedIn(unittest.TestCase):
    def test_zone_and_plan_are_as_they_were(self):
        zone = copy.deepcopy(SIX)
        for plan in PLANS:
            same = copy.deepcopy(plan)
            due(zone, same, 3)
            dues(zone, same, 0, 99)
            self.assertEqual(same, plan)
        self.assertEqual(zone, SIX)

    def test_told_lists_are_new_ones(self):
        for plan in PLANS:
            for first, last in ((0, 200), (200, 0)):
                told = dues(SHIFTED, plan, first, last)
                before = list(told)
                told.append("more")
                self.assertEqual(dues(SHIFTED, plan, first, last), before)

    def test_equal_things_give_equal_answers(self):
        for plan in PLANS:
            same = tuple(list(plan))
            other = tuple([1, tuple([tuple([100, 2]), tuple([200, -1])])])
            self.assertEqual(due(SHIFTED, plan, 3), due(other, same, 3))
            self.assertEqual(dues(SHIFTED, plan, 0, 300), dues(other, same, 0, 300))


if __name__ == "__main__":
    unittest.main()
