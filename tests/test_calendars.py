import copy
import random
import unittest

from duehall.calendars import busiest, calendar, idle_stretch, next_due
from duehall.errors import NoDeeds, NoMoment, NoWidth, NoZone
from samples import (LEAPING, MIXED, ONE, PLAIN, SHIFTED, SIX, no_deeds, no_wholes, no_zones, random_deeds,
                     random_zone, walked_rows)


def deeds_of(*plans):
    return tuple((plan, "all", True) for plan in plans)


EACH = deeds_of(("every", 0, 1))


class Calendar(unittest.TestCase):
    def test_by_moments_then_deeds(self):
        deeds = deeds_of(("every", 5, 5), ("once", 5), ("every", 0, 5))
        self.assertEqual(calendar(PLAIN, deeds, 0, 10), [(0, 2, 0), (5, 0, 0), (5, 1, 0), (5, 2, 1), (10, 0, 1),
                                                         (10, 2, 2)])

    def test_both_moments_too(self):
        deeds = deeds_of(("every", 0, 5))
        self.assertEqual(calendar(PLAIN, deeds, 5, 15), [(5, 0, 1), (10, 0, 2), (15, 0, 3)])
        self.assertEqual(calendar(PLAIN, deeds, 6, 14), [(10, 0, 2)])
        self.assertEqual(calendar(PLAIN, deeds, 10, 10), [(10, 0, 2)])
        self.assertEqual(calendar(PLAIN, deeds, 11, 11), [])

    def test_no_deed(self):
        self.assertEqual(calendar(SHIFTED, (), 0, 9999), [])

    def test_six_deeds(self):
        deeds = deeds_of(*[("once", 7)] * 6)
        self.assertEqual(calendar(PLAIN, deeds, 0, 9999), [(7, deed, 0) for deed in range(6)])

    def test_by_the_wall(self):
        deeds = deeds_of(("daily", 5), ("daily", 7))
        self.assertEqual(calendar(SHIFTED, deeds, 76, 125), [(76, 0, 3), (78, 1, 3), (100, 0, 4), (101, 1, 4),
                                                             (123, 0, 5), (125, 1, 5)])
        self.assertEqual(calendar(SHIFTED, deeds, 197, 224), [(197, 1, 8), (222, 0, 9), (224, 1, 9)])

    def test_several_times_of_one_deed_at_one_moment(self):
        deeds = deeds_of(("daily", 1), ("daily", 0))
        self.assertEqual(calendar(LEAPING, deeds, 0, 20), [(12, 0, 0), (12, 0, 1), (12, 1, 0), (12, 1, 1)])

    def test_both_bounds(self):
        self.assertEqual(calendar(PLAIN, EACH, 0, 9999), [(at, 0, at) for at in range(10000)])
        self.assertEqual(calendar(PLAIN, EACH, 9999, 9999), [(9999, 0, 9999)])

    def test_late_and_again_do_not_matter(self):
        for late in ("all", "last", ("within", 0)):
            for again in (True, False):
                self.assertEqual(calendar(PLAIN, ((("every", 0, 5), late, again),), 0, 5), [(0, 0, 0), (5, 0, 1)])


class IdleStretch(unittest.TestCase):
    def test_the_longest(self):
        deeds = deeds_of(("once", 3), ("once", 10), ("once", 12))
        self.assertEqual(idle_stretch(PLAIN, deeds, 0, 15), (4, 9))
        self.assertEqual(idle_stretch(PLAIN, deeds, 0, 30), (13, 30))
        self.assertEqual(idle_stretch(PLAIN, deeds, 9, 13), (9, 9))

    def test_the_first_among_equally_long_ones(self):
        deeds = deeds_of(("every", 4, 5))
        self.assertEqual(idle_stretch(PLAIN, deeds, 0, 19), (0, 3))
        self.assertEqual(idle_stretch(PLAIN, deeds, 1, 19), (5, 8))
        self.assertEqual(idle_stretch(PLAIN, deeds, 1, 13), (5, 8))

    def test_of_one_moment(self):
        self.assertEqual(idle_stretch(PLAIN, deeds_of(("every", 0, 2)), 0, 9), (1, 1))
        self.assertEqual(idle_stretch(PLAIN, deeds_of(("every", 0, 2)), 9, 9), (9, 9))
        self.assertEqual(idle_stretch(PLAIN, deeds_of(("every", 1, 1)), 0, 9), (0, 0))
        self.assertEqual(idle_stretch(PLAIN, deeds_of(("every", 0, 9), ("every", 1, 9), ("every", 2, 9)), 0, 3), (3, 3))

    def test_of_all(self):
        self.assertEqual(idle_stretch(PLAIN, (), 0, 9999), (0, 9999))
        self.assertEqual(idle_stretch(PLAIN, deeds_of(("once", 5)), 6, 20), (6, 20))
        self.assertEqual(idle_stretch(PLAIN, (), 7, 7), (7, 7))

    def test_none_where_each_moment_has_a_time(self):
        self.assertIsNone(idle_stretch(PLAIN, EACH, 0, 9999))
        self.assertIsNone(idle_stretch(PLAIN, EACH, 5, 5))
        self.assertIsNone(idle_stretch(PLAIN, deeds_of(("every", 0, 2), ("every", 1, 2)), 3, 40))

    def test_several_times_at_one_moment(self):
        self.assertEqual(idle_stretch(LEAPING, deeds_of(("daily", 0), ("daily", 1), ("once", 12)), 10, 15), (13, 15))
        self.assertIsNone(idle_stretch(PLAIN, deeds_of(("once", 5), ("once", 5)), 5, 5))


class Busiest(unittest.TestCase):
    DEEDS = deeds_of(("once", 3), ("once", 5), ("once", 5), ("every", 9, 1))

    def test_so_many_hours(self):
        self.assertEqual(busiest(PLAIN, self.DEEDS, 0, 8, 1), (5, 2))
        self.assertEqual(busiest(PLAIN, self.DEEDS, 0, 8, 2), (4, 2))
        self.assertEqual(busiest(PLAIN, self.DEEDS, 0, 8, 3), (3, 3))
        self.assertEqual(busiest(PLAIN, self.DEEDS, 0, 8, 4), (2, 3))
        self.assertEqual(busiest(PLAIN, self.DEEDS, 0, 20, 4), (9, 4))

    def test_of_all_hours(self):
        self.assertEqual(busiest(PLAIN, self.DEEDS, 0, 8, 9), (0, 3))
        self.assertEqual(busiest(PLAIN, EACH, 0, 9999, 10000), (0, 10000))
        self.assertEqual(busiest(PLAIN, self.DEEDS, 5, 5, 1), (5, 2))

    def test_all_of_them_from_the_one_moment_to_the_other(self):
        # The hours may not go on behind the last moment, nor begin ahead of the first one.
        self.assertEqual(busiest(PLAIN, self.DEEDS, 4, 8, 3), (4, 2))
        self.assertEqual(busiest(PLAIN, deeds_of(("once", 9), ("once", 10)), 0, 9, 3), (7, 1))
        self.assertEqual(busiest(PLAIN, deeds_of(("once", 9)), 0, 9, 1), (9, 1))
        self.assertEqual(busiest(PLAIN, deeds_of(("once", 0)), 1, 9, 2), (1, 0))

    def test_the_first_among_equals(self):
        self.assertEqual(busiest(PLAIN, EACH, 4, 30, 5), (4, 5))
        self.assertEqual(busiest(PLAIN, deeds_of(("every", 2, 5)), 0, 30, 1), (2, 1))
        self.assertEqual(busiest(PLAIN, deeds_of(("every", 2, 5)), 3, 30, 6), (7, 2))

    def test_where_no_time_is_due_at_all(self):
        self.assertEqual(busiest(PLAIN, (), 4, 30, 5), (4, 0))
        self.assertEqual(busiest(PLAIN, deeds_of(("once", 3)), 4, 30, 27), (4, 0))

    def test_several_times_at_one_moment(self):
        self.assertEqual(busiest(LEAPING, deeds_of(("daily", 0), ("daily", 1)), 0, 40, 1), (12, 4))

    def test_no_width(self):
        for wide in no_wholes(1, 9) + [0, 10]:
            with self.assertRaises(NoWidth):
                busiest(PLAIN, self.DEEDS, 2, 10, wide)
        busiest(PLAIN, self.DEEDS, 2, 10, 1)
        busiest(PLAIN, self.DEEDS, 2, 10, 9)


class NextDue(unittest.TestCase):
    def test_from_the_moment_on(self):
        deeds = deeds_of(("once", 5), ("every", 3, 4), ("daily", 7))
        told = [next_due(PLAIN, deeds, moment) for moment in (0, 3, 4, 5, 6, 7, 8)]
        self.assertEqual(told, [(3, 1, 0), (3, 1, 0), (5, 0, 0), (5, 0, 0), (7, 1, 1), (7, 1, 1), (11, 1, 2)])

    def test_at_moment_0(self):
        self.assertEqual(next_due(PLAIN, deeds_of(("once", 0)), 0), (0, 0, 0))
        self.assertEqual(next_due(PLAIN, deeds_of(("daily", 0)), 0), (0, 0, 0))
        self.assertEqual(next_due((5, ()), deeds_of(("daily", 4), ("daily", 5)), 0), (0, 1, 0))

    def test_of_such_the_least_deed_and_count(self):
        self.assertEqual(next_due(PLAIN, deeds_of(("once", 7), ("once", 5), ("once", 5)), 1), (5, 1, 0))
        self.assertEqual(next_due(LEAPING, deeds_of(("once", 13), ("daily", 1), ("daily", 0)), 12), (12, 1, 0))
        self.assertEqual(next_due(LEAPING, deeds_of(("daily", 0)), 13), (34, 0, 2))

    def test_far_behind_the_moment(self):
        self.assertEqual(next_due(PLAIN, deeds_of(("once", 9999)), 0), (9999, 0, 0))
        self.assertEqual(next_due(PLAIN, deeds_of(("every", 0, 999)), 9991), (10989, 0, 11))
        self.assertEqual(next_due(PLAIN, deeds_of(("daily", 14)), 9999), (10022, 0, 417))
        self.assertEqual(next_due((0, ((9999, -12),)), deeds_of(("daily", 15)), 9999), (10011, 0, 416))

    def test_none(self):
        self.assertIsNone(next_due(PLAIN, (), 0))
        self.assertIsNone(next_due(PLAIN, deeds_of(("once", 5), ("once", 7)), 8))
        self.assertEqual(next_due(PLAIN, deeds_of(("once", 5), ("once", 7)), 7), (7, 1, 0))

    def test_no_zone_no_deeds_no_moment(self):
        for zone in no_zones():
            with self.assertRaises(NoZone):
                next_due(zone, MIXED, 5)
            with self.assertRaises(NoZone):
                next_due(zone, None, -1)
        for deeds in no_deeds():
            with self.assertRaises(NoDeeds):
                next_due(PLAIN, deeds, 5)
            with self.assertRaises(NoDeeds):
                next_due(PLAIN, deeds, -1)
        for moment in no_wholes(0, 9999):
            with self.assertRaises(NoMoment):
                next_due(PLAIN, MIXED, moment)
            with self.assertRaises(NoMoment):
                next_due(PLAIN, (), moment)


class Refused(unittest.TestCase):
    def tellers(self):
        return (calendar, idle_stretch, lambda zone, deeds, first, last: busiest(zone, deeds, first, last, 1),
                lambda zone, deeds, first, last: busiest(zone, deeds, first, last, 0))

    def test_no_zone(self):
        for tell in self.tellers():
            for zone in no_zones():
                with self.assertRaises(NoZone):
                    tell(zone, MIXED, 0, 5)
                with self.assertRaises(NoZone):
                    tell(zone, None, 5, 4)

    def test_no_deeds(self):
        for tell in self.tellers():
            for deeds in no_deeds():
                with self.assertRaises(NoDeeds):
                    tell(PLAIN, deeds, 0, 5)
                with self.assertRaises(NoDeeds):
                    tell(PLAIN, deeds, 5, None)

    def test_no_moment(self):
        for tell in self.tellers():
            for deeds in (MIXED, ()):
                for moment in no_wholes(0, 9999):
                    with self.assertRaises(NoMoment):
                        tell(PLAIN, deeds, moment, 9999)
                    with self.assertRaises(NoMoment):
                        tell(PLAIN, deeds, 0, moment)

    def test_last_less_than_first(self):
        for tell in self.tellers():
            for deeds in (MIXED, ()):
                for first, last in ((1, 0), (9999, 9998), (9999, 0)):
                    with self.assertRaises(NoMoment):
                        tell(PLAIN, deeds, first, last)


class InManyZones(unittest.TestCase):
    def test_as_a_walk_finds(self):
        chance = random.Random(41)
        for _ in range(200):
            zone = random_zone(chance, chance.choice((10, 40, 120)))
            deeds = random_deeds(chance, 90)
            first = chance.randint(0, 60)
            last = first + chance.randint(0, 60)
            rows = walked_rows(zone, deeds, first, last)
            self.assertEqual(calendar(zone, deeds, first, last), rows, (zone, deeds, first, last))
            self.check_stretch(zone, deeds, first, last, rows)
            self.check_busiest(zone, deeds, first, last, rows, chance.randint(1, last - first + 1))
            later = walked_rows(zone, deeds, first, 300)
            self.assertEqual(next_due(zone, deeds, first), later[0] if later else None)

    def check_stretch(self, zone, deeds, first, last, rows):
        taken = {row[0] for row in rows}
        idle = [(start - end, start, end) for start in range(first, last + 1) for end in range(start, last + 1)
                if not taken & set(range(start, end + 1))]
        self.assertEqual(idle_stretch(zone, deeds, first, last), min(idle)[1:] if idle else None)

    def check_busiest(self, zone, deeds, first, last, rows, wide):
        counts = [(-sum(start <= row[0] < start + wide for row in rows), start)
                  for start in range(first, last - wide + 2)]
        self.assertEqual(busiest(zone, deeds, first, last, wide), (min(counts)[1], -min(counts)[0]))


class HandedIn(unittest.TestCase):
    def test_zone_and_deeds_are_as_they_were(self):
        zone = copy.deepcopy(SIX)
        deeds = copy.deepcopy(MIXED)
        calendar(zone, deeds, 0, 99)
        idle_stretch(zone, deeds, 0, 99)
        busiest(zone, deeds, 0, 99, 5)
        next_due(zone, deeds, 5)
        self.assertEqual((zone, deeds), (SIX, MIXED))

    def test_told_lists_are_new_ones(self):
        for deeds in ((), ONE, MIXED):
            told = calendar(SHIFTED, deeds, 0, 99)
            self.assertIs(type(told), list)
            before = list(told)
            told.append("more")
            self.assertEqual(calendar(SHIFTED, deeds, 0, 99), before)

    def test_told_are_tuples(self):
        self.assertEqual({type(row) for row in calendar(SHIFTED, MIXED, 0, 99)}, {tuple})
        for told in (idle_stretch(PLAIN, MIXED, 0, 99), busiest(PLAIN, MIXED, 0, 99, 5), next_due(PLAIN, MIXED, 5)):
            self.assertIs(type(told), tuple)


if __name__ == "__main__":
    unittest.main()
