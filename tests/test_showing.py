import copy
import random
import unittest

from duehall.errors import NoMoment, NoZone
from duehall.showing import leaps, long_day, never_shown, shown_often
from samples import LEAPING, PLAIN, SHIFTED, SIX, hours_shown, no_wholes, no_zones, random_zone

# Back by 2 at 5 and again at 7: hours 3 and 4 of day 0 are shown three times.
THRICE = (0, ((5, -2), (7, -4)))


class NeverShown(unittest.TestCase):
    def test_without_shifts(self):
        self.assertEqual(never_shown(PLAIN, 0, 9999), [])
        self.assertEqual(never_shown((-12, ()), 0, 50), [])

    def test_forward(self):
        # At 99 the wall shows 100, at 100 it shows 102.
        self.assertEqual(never_shown(SHIFTED, 0, 150), [(4, 5)])
        self.assertEqual(never_shown(SHIFTED, 99, 100), [(4, 5)])
        self.assertEqual(never_shown((0, ((10, 3),)), 0, 50), [(0, 10), (0, 11), (0, 12)])

    def test_between_the_least_and_the_greatest_alone(self):
        self.assertEqual(never_shown(SHIFTED, 0, 99), [])
        self.assertEqual(never_shown(SHIFTED, 100, 150), [])

    def test_over_days(self):
        self.assertEqual(never_shown(LEAPING, 0, 12), [(0, hour) for hour in range(24)] + [(1, 0), (1, 1)])
        self.assertEqual(never_shown((-12, ((1, -10),)), 0, 5), [(-1, 13), (-1, 14)])

    def test_back(self):
        self.assertEqual(never_shown(SHIFTED, 150, 250), [])
        # At 4 the wall shows hour 4 of day 0, at 5 hour 17 of day -1.
        self.assertEqual(never_shown((0, ((5, -12),)), 4, 5), [(-1, hour) for hour in range(18, 24)]
                         + [(0, hour) for hour in range(4)])

    def test_forward_and_back_by_as_much(self):
        # Put back at 11 the wall shows hour 11 then, which it skipped at 10.
        self.assertEqual(never_shown((0, ((10, 2), (13, 0))), 0, 50), [(0, 10), (0, 11)])
        self.assertEqual(never_shown((0, ((10, 2), (11, 0))), 0, 50), [(0, 10)])
        self.assertEqual(never_shown((0, ((10, 2), (11, 0))), 0, 10), [(0, 10), (0, 11)])

    def test_two_shifts_close_to_one_another(self):
        self.assertEqual(never_shown((0, ((10, 1), (11, 2))), 0, 50), [(0, 10), (0, 12)])

    def test_to_the_same_hours_ahead(self):
        self.assertEqual(never_shown((3, ((20, 3),)), 0, 50), [])

    def test_first_equal_to_last(self):
        for moment in (0, 100, 9999):
            self.assertEqual(never_shown(SHIFTED, moment, moment), [])

    def test_both_bounds(self):
        self.assertEqual(never_shown(SHIFTED, 0, 9999), [(4, 5)])
        self.assertEqual(never_shown((0, ((9999, 2),)), 0, 9999), [(416, 15), (416, 16)])
        self.assertEqual(never_shown((0, ((9999, 2),)), 0, 9998), [])
        self.assertEqual(never_shown((0, ((1, 2),)), 0, 9999), [(0, 1), (0, 2)])


class ShownOften(unittest.TestCase):
    def test_without_shifts(self):
        self.assertEqual(shown_often(PLAIN, 0, 9999), [])

    def test_forward(self):
        self.assertEqual(shown_often(SHIFTED, 0, 199), [])

    def test_back(self):
        # From 199 to 200 the wall goes from 201 to 199.
        self.assertEqual(shown_often(SHIFTED, 0, 250), [((8, 7), 2), ((8, 8), 2), ((8, 9), 2)])
        self.assertEqual(shown_often(SHIFTED, 198, 201), [((8, 8), 2)])
        self.assertEqual(shown_often((0, ((10, -1),)), 0, 50), [((0, 9), 2)])

    def test_forward_and_back_by_as_much(self):
        self.assertEqual(shown_often((0, ((10, 2), (13, 0))), 0, 50), [((0, 13), 2), ((0, 14), 2)])

    def test_three_times(self):
        self.assertEqual(shown_often(THRICE, 0, 50), [((0, 3), 3), ((0, 4), 3)])
        self.assertEqual(shown_often(THRICE, 0, 7), [((0, 3), 3), ((0, 4), 2)])
        self.assertEqual(shown_often(THRICE, 4, 50), [((0, 3), 2), ((0, 4), 3)])

    def test_two_shifts_close_to_one_another(self):
        self.assertEqual(shown_often((0, ((10, -1), (11, -2))), 0, 50), [((0, 9), 3)])

    def test_on_day_minus_one(self):
        self.assertEqual(shown_often((-10, ((2, -12),)), 0, 9), [((-1, 14), 2), ((-1, 15), 2)])

    def test_to_the_same_hours_ahead(self):
        self.assertEqual(shown_often((3, ((20, 3), (21, 3))), 0, 50), [])

    def test_first_equal_to_last(self):
        for moment in (0, 200, 9999):
            self.assertEqual(shown_often(SHIFTED, moment, moment), [])

    def test_both_bounds(self):
        self.assertEqual(shown_often((0, ((9999, -1),)), 0, 9999), [((416, 14), 2)])
        self.assertEqual(shown_often((0, ((1, -1),)), 0, 9999), [((0, 0), 2)])
        self.assertEqual(shown_often((0, ((1, -1),)), 1, 9999), [])


class Leaps(unittest.TestCase):
    def test_by_how_many_hours_more_it_shows(self):
        self.assertEqual(leaps(PLAIN), [])
        self.assertEqual(leaps(SHIFTED), [(100, 2), (200, -2)])
        self.assertEqual(leaps((0, ((10, -1),))), [(10, 0)])
        self.assertEqual(leaps((0, ((10, -2),))), [(10, -1)])
        self.assertEqual(leaps(SIX), [(10, 2), (20, 0), (30, -14), (31, 27), (40, -13)])

    def test_not_where_it_goes_on_by_one(self):
        self.assertEqual(leaps((3, ((20, 3),))), [])
        self.assertEqual(leaps((3, ((20, 3), (21, 4), (22, 4)))), [(21, 2)])

    def test_a_day_on_at_the_same_hour_is_a_leap(self):
        self.assertEqual(leaps((-12, ((5, 12),))), [(5, 25)])

    def test_at_the_bounds(self):
        self.assertEqual(leaps((0, ((1, 14), (9999, -12)))), [(1, 15), (9999, -25)])

    def test_no_zone(self):
        for zone in no_zones():
            with self.assertRaises(NoZone):
                leaps(zone)


class LongDay(unittest.TestCase):
    def test_without_shifts(self):
        self.assertEqual([long_day(PLAIN, day) for day in (0, 1, 400)], [24, 24, 24])

    def test_day_0(self):
        self.assertEqual(long_day((3, ()), 0), 21)
        self.assertEqual(long_day((14, ()), 0), 10)
        self.assertEqual(long_day((-12, ()), 0), 24)

    def test_forward_and_back(self):
        self.assertEqual([long_day(SHIFTED, day) for day in (3, 4, 5, 8, 9)], [24, 23, 24, 27, 24])
        self.assertEqual([long_day((0, ((10, 2), (13, 0))), day) for day in (0, 1)], [24, 24])
        self.assertEqual(long_day(THRICE, 0), 28)

    def test_never_shown_at_all(self):
        self.assertEqual([long_day(LEAPING, day) for day in (0, 1, 2)], [0, 22, 24])

    def test_last_day(self):
        self.assertEqual(long_day((0, ((9612, -12),)), 400), 36)
        self.assertEqual(long_day((0, ((9999, -12),)), 400), 24)

    def test_no_day(self):
        for day in no_wholes(0, 400) + [-1, 401]:
            with self.assertRaises(NoMoment):
                long_day(SHIFTED, day)

    def test_zone_is_refused_first(self):
        for zone in no_zones():
            with self.assertRaises(NoZone):
                long_day(zone, 5)
            with self.assertRaises(NoZone):
                long_day(zone, 401)


class Refused(unittest.TestCase):
    def test_no_zone(self):
        for told in (never_shown, shown_often):
            for zone in no_zones():
                with self.assertRaises(NoZone):
                    told(zone, 0, 5)
                with self.assertRaises(NoZone):
                    told(zone, 5, 4)
                with self.assertRaises(NoZone):
                    told(zone, -1, None)

    def test_no_moment(self):
        for told in (never_shown, shown_often):
            for moment in no_wholes(0, 9999):
                with self.assertRaises(NoMoment):
                    told(SHIFTED, moment, 9999)
                with self.assertRaises(NoMoment):
                    told(SHIFTED, 0, moment)

    def test_last_less_than_first(self):
        for told in (never_shown, shown_often):
            for first, last in ((1, 0), (9999, 9998), (9999, 0)):
                with self.assertRaises(NoMoment):
                    told(SHIFTED, first, last)


class InManyZones(unittest.TestCase):
    def test_as_a_walk_finds(self):
        chance = random.Random(31)
        for _ in range(200):
            zone = random_zone(chance, chance.choice((10, 40, 120)))
            first = chance.randint(0, 60)
            last = first + chance.randint(0, 90)
            seen = [divmod(hours_shown(zone, at), 24) for at in range(first, last + 1)]
            days = range(-2, 10)
            between = [(day, hour) for day in days for hour in range(24) if min(seen) <= (day, hour) <= max(seen)]
            self.assertEqual(never_shown(zone, first, last), [shown for shown in between if shown not in seen])
            often = [(shown, seen.count(shown)) for shown in sorted(set(seen)) if seen.count(shown) > 1]
            self.assertEqual(shown_often(zone, first, last), often)
            steps = [(at, hours_shown(zone, at) - hours_shown(zone, at - 1)) for at in range(1, 200)]
            self.assertEqual(leaps(zone), [step for step in steps if step[1] != 1])
            for day in range(6):
                many = sum(hours_shown(zone, at) // 24 == day for at in range(300))
                self.assertEqual(long_day(zone, day), many)


class HandedIn(unittest.TestCase):
    def tellers(self):
        return (lambda zone: never_shown(zone, 0, 300), lambda zone: shown_often(zone, 0, 300), leaps)

    def test_zone_is_as_it_was(self):
        zone = copy.deepcopy(SIX)
        for tell in self.tellers():
            tell(zone)
        long_day(zone, 3)
        self.assertEqual(zone, SIX)

    def test_told_lists_are_new_ones(self):
        for zone in (PLAIN, SHIFTED, THRICE):
            for tell in self.tellers():
                told = tell(zone)
                self.assertIs(type(told), list)
                before = list(told)
                told.append("more")
                self.assertEqual(tell(zone), before)

    def test_told_are_tuples(self):
        self.assertEqual([type(row) for row in never_shown(SHIFTED, 0, 300)], [tuple])
        self.assertEqual([(type(row), type(row[0])) for row in shown_often(SHIFTED, 0, 300)], [(tuple, tuple)] * 3)
        self.assertEqual([type(row) for row in leaps(SHIFTED)], [tuple, tuple])


if __name__ == "__main__":
    unittest.main()
