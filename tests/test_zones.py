import copy
import random
import unittest

from duehall.errors import NoMoment, NoZone
from duehall.zones import moments, wall
from samples import PLAIN, SHIFTED, SIX, hours_shown, no_wholes, no_zones, random_zone


class Wall(unittest.TestCase):
    def test_without_shifts(self):
        self.assertEqual(wall(PLAIN, 0), (0, 0))
        self.assertEqual(wall(PLAIN, 23), (0, 23))
        self.assertEqual(wall(PLAIN, 24), (1, 0))
        self.assertEqual(wall(PLAIN, 9999), (416, 15))

    def test_ahead_at_its_bounds(self):
        self.assertEqual(wall((14, ()), 0), (0, 14))
        self.assertEqual(wall((14, ()), 10), (1, 0))
        self.assertEqual(wall((14, ()), 9999), (417, 5))
        self.assertEqual(wall((-12, ()), 0), (-1, 12))
        self.assertEqual(wall((-12, ()), 11), (-1, 23))
        self.assertEqual(wall((-12, ()), 12), (0, 0))
        self.assertEqual(wall((-12, ()), 9999), (416, 3))

    def test_below_zero_is_day_minus_one(self):
        self.assertEqual(wall((-1, ()), 0), (-1, 23))
        self.assertEqual(wall((-1, ()), 1), (0, 0))
        self.assertEqual(wall((0, ((5, -12),)), 4), (0, 4))
        self.assertEqual(wall((0, ((5, -12),)), 5), (-1, 17))

    def test_one_shift_holds_from_its_moment_on(self):
        zone = (0, ((10, 1),))
        self.assertEqual([wall(zone, at) for at in (9, 10, 11)], [(0, 9), (0, 11), (0, 12)])

    def test_shift_at_the_first_and_at_the_last_moment(self):
        self.assertEqual([wall((0, ((1, 5),)), at) for at in (0, 1)], [(0, 0), (0, 6)])
        self.assertEqual([wall((0, ((9999, 9),)), at) for at in (9998, 9999)], [(416, 14), (417, 0)])

    def test_six_shifts(self):
        told = [wall(SIX, at) for at in (9, 10, 19, 20, 29, 30, 31, 32, 39, 40)]
        self.assertEqual(told, [(0, 12), (0, 14), (0, 23), (0, 23), (1, 8), (0, 18), (1, 21), (1, 22), (2, 5), (1, 16)])

    def test_shift_to_the_same_hours_ahead_changes_nothing(self):
        for at in range(60):
            self.assertEqual(wall((3, ((20, 3), (21, 3))), at), wall((3, ()), at))

    def test_shifts_do_not_add_up(self):
        self.assertEqual(wall((5, ((1, 2), (2, 2))), 3), (0, 5))

    def test_told_is_a_tuple_of_two_whole_numbers(self):
        told = wall(SHIFTED, 5)
        self.assertIs(type(told), tuple)
        self.assertEqual([type(part) for part in told], [int, int])

    def test_as_the_document_tells_in_many_zones(self):
        chance = random.Random(11)
        for _ in range(300):
            zone = random_zone(chance, 200)
            for at in chance.sample(range(250), 40) + [0, 9999]:
                self.assertEqual(wall(zone, at), divmod(hours_shown(zone, at), 24), (zone, at))


class Moments(unittest.TestCase):
    def test_without_shifts(self):
        self.assertEqual(moments(PLAIN, 0, 0), [0])
        self.assertEqual(moments(PLAIN, 2, 5), [53])
        self.assertEqual(moments((3, ()), 2, 5), [50])
        self.assertEqual(moments(PLAIN, 416, 15), [9999])

    def test_what_was_shown_ahead_of_moment_0_has_none(self):
        self.assertEqual(moments((3, ()), 0, 2), [])
        self.assertEqual(moments((3, ()), 0, 3), [0])
        self.assertEqual(moments(PLAIN, -1, 23), [])
        self.assertEqual(moments((-12, ()), -1, 11), [])

    def test_day_minus_one(self):
        self.assertEqual(moments((-12, ()), -1, 12), [0])
        self.assertEqual(moments((-12, ()), -1, 23), [11])
        self.assertEqual(moments((0, ((5, -12),)), -1, 17), [5])
        self.assertEqual(moments((-1, ()), -1, 0), [])

    def test_skipped_hour_has_none(self):
        # At 99 the wall shows 100, at 100 it shows 102.
        self.assertEqual(moments(SHIFTED, 4, 4), [99])
        self.assertEqual(moments(SHIFTED, 4, 5), [])
        self.assertEqual(moments(SHIFTED, 4, 6), [100])

    def test_hour_that_comes_twice(self):
        # From 199 to 200 the wall goes from 201 to 199.
        self.assertEqual(moments(SHIFTED, 8, 6), [196])
        self.assertEqual(moments(SHIFTED, 8, 7), [197, 200])
        self.assertEqual(moments(SHIFTED, 8, 9), [199, 202])
        self.assertEqual(moments(SHIFTED, 8, 10), [203])

    def test_hour_that_comes_seven_times(self):
        zone = (14, ((2, 12), (4, 10), (6, 8), (8, 6), (10, 4), (12, 2)))
        self.assertEqual(moments(zone, 0, 14), [0, 2, 4, 6, 8, 10, 12])
        self.assertEqual(moments(zone, 0, 15), [1, 3, 5, 7, 9, 11, 13])
        self.assertEqual(moments(zone, 0, 16), [14])

    def test_shift_to_the_same_hours_ahead_tells_nothing_twice(self):
        self.assertEqual(moments((3, ((20, 3), (21, 3))), 1, 0), [21])
        self.assertEqual(moments((3, ((20, 3), (21, 3))), 0, 23), [20])

    def test_last_day_and_hours(self):
        self.assertEqual(moments(PLAIN, 9999, 0), [239976])
        self.assertEqual(moments((-12, ()), 9999, 23), [240011])
        self.assertEqual(moments((0, ((9999, 14),)), 9999, 23), [239985])

    def test_told_is_a_list(self):
        self.assertIs(type(moments(PLAIN, 1, 1)), list)
        self.assertIs(type(moments(SHIFTED, 4, 5)), list)

    def test_as_the_wall_shows_in_many_zones(self):
        chance = random.Random(12)
        for _ in range(200):
            zone = random_zone(chance, 90)
            shown = {}
            for at in range(200):
                shown.setdefault(wall(zone, at), []).append(at)
            for day in range(-1, 6):
                for hour in range(24):
                    self.assertEqual(moments(zone, day, hour), shown.get((day, hour), []), (zone, day, hour))


class Refused(unittest.TestCase):
    def test_no_zone(self):
        for zone in no_zones():
            with self.assertRaises(NoZone):
                wall(zone, 5)
            with self.assertRaises(NoZone):
                moments(zone, 5, 5)

    def test_zones_at_the_bounds_are_none_refused(self):
        six = tuple((at, 14) for at in range(9994, 10000))
        for zone in ((-12, ()), (14, ()), (0, ((1, -12),)), (0, ((9999, 14),)), (0, ((1, 0), (2, 0))), (0, six)):
            wall(zone, 0)
            moments(zone, 0, 0)

    def test_no_moment(self):
        for moment in no_wholes(0, 9999):
            with self.assertRaises(NoMoment):
                wall(SHIFTED, moment)

    def test_no_day(self):
        for day in no_wholes(-1, 9999):
            with self.assertRaises(NoMoment):
                moments(SHIFTED, day, 5)

    def test_no_hour(self):
        for hour in no_wholes(0, 23):
            with self.assertRaises(NoMoment):
                moments(SHIFTED, 5, hour)

    def test_zone_is_refused_first(self):
        for zone in no_zones():
            with self.assertRaises(NoZone):
                wall(zone, -1)
            with self.assertRaises(NoZone):
                moments(zone, -2, 24)


class HandedIn(unittest.TestCase):
    def test_zone_is_as_it_was(self):
        zone = copy.deepcopy(SIX)
        wall(zone, 35)
        moments(zone, 1, 8)
        self.assertEqual(zone, SIX)

    def test_told_lists_are_new_ones(self):
        for day in (8, 1000, -1):
            told = moments(SHIFTED, day, 7)
            before = list(told)
            told.append("more")
            self.assertEqual(moments(SHIFTED, day, 7), before)
            self.assertIsNot(moments(SHIFTED, day, 7), moments(SHIFTED, day, 7))

    def test_equal_zones_give_equal_answers(self):
        other = tuple([1, tuple([tuple([100, 2]), tuple([200, -1])])])
        self.assertEqual(wall(SHIFTED, 150), wall(other, 150))
        self.assertEqual(moments(SHIFTED, 8, 7), moments(other, 8, 7))


if __name__ == "__main__":
    unittest.main()
