import copy
import random
import unittest

from duehall.errors import NoCount, NoMoment, NoPlan, NoZone
from duehall.meeting import count_at, gaps, how_many, meet
from duehall.plans import due
from samples import (LEAPING, PLAIN, SHIFTED, SIX, no_plans, no_wholes, no_zones, random_plan, random_zone,
                     walked_times)

ONCE = ("once", 5)
EVERY = ("every", 10, 3)
DAILY = ("daily", 5)


class HowMany(unittest.TestCase):
    def test_once(self):
        self.assertEqual([how_many(PLAIN, ONCE, *ends) for ends in ((0, 4), (0, 5), (5, 5), (5, 9999), (6, 9999))],
                         [0, 1, 1, 1, 0])

    def test_every(self):
        ends = ((0, 9), (0, 10), (10, 10), (10, 12), (10, 13), (11, 12), (11, 13), (13, 19), (0, 9999))
        self.assertEqual([how_many(PLAIN, EVERY, *pair) for pair in ends], [0, 1, 1, 1, 2, 0, 1, 3, 3330])
        self.assertEqual(how_many(PLAIN, ("every", 0, 1), 0, 9999), 10000)
        self.assertEqual(how_many(PLAIN, ("every", 9999, 999), 9999, 9999), 1)

    def test_daily(self):
        self.assertEqual(how_many(PLAIN, DAILY, 0, 4), 0)
        self.assertEqual(how_many(PLAIN, DAILY, 0, 5), 1)
        self.assertEqual(how_many(PLAIN, DAILY, 5, 29), 2)
        self.assertEqual(how_many(PLAIN, DAILY, 6, 28), 0)
        self.assertEqual(how_many(PLAIN, ("daily", 0), 0, 0), 1)

    def test_daily_over_leaps(self):
        self.assertEqual(how_many(SHIFTED, DAILY, 77, 99), 0)
        self.assertEqual(how_many(SHIFTED, DAILY, 77, 100), 1)
        self.assertEqual(how_many(SHIFTED, DAILY, 196, 221), 0)
        self.assertEqual(how_many(SHIFTED, ("daily", 8), 198, 200), 1)
        self.assertEqual(how_many(SHIFTED, ("daily", 8), 199, 221), 0)

    def test_several_times_at_one_moment(self):
        self.assertEqual(how_many(LEAPING, ("daily", 0), 12, 12), 2)
        self.assertEqual(how_many(LEAPING, ("daily", 0), 0, 11), 0)
        self.assertEqual(how_many(LEAPING, ("daily", 0), 13, 33), 0)

    def test_last_less_than_first(self):
        for plan in (ONCE, EVERY, DAILY, ("every", 0, 1)):
            for first, last in ((6, 5), (9999, 0), (1, 0), (20, 10), (30, 29), (13, 12), (14, 13)):
                told = how_many(SHIFTED, plan, first, last)
                self.assertEqual((told, type(told)), (0, int))

    def test_no_time(self):
        told = how_many(PLAIN, ("once", 9999), 0, 9998)
        self.assertEqual((told, type(told)), (0, int))


class Meet(unittest.TestCase):
    def meet(self, zone, one, other, last):
        told = meet(zone, one, other, last)
        self.assertEqual(meet(zone, other, one, last), told)
        return told

    def test_two_of_every(self):
        self.assertEqual(self.meet(PLAIN, ("every", 2, 3), ("every", 4, 5), 9999), 14)
        self.assertEqual(self.meet(PLAIN, ("every", 0, 999), ("every", 1, 998), 9999), 999)
        self.assertEqual(self.meet(PLAIN, ("every", 7, 7), ("every", 0, 5), 9999), 35)

    def test_once(self):
        self.assertEqual(self.meet(PLAIN, ONCE, ("every", 1, 4), 9999), 5)
        self.assertIsNone(self.meet(PLAIN, ONCE, ("every", 2, 4), 9999))
        self.assertIsNone(self.meet(PLAIN, ONCE, ("once", 6), 9999))
        self.assertEqual(self.meet(PLAIN, ONCE, DAILY, 9999), 5)

    def test_with_itself(self):
        for plan, moment in ((ONCE, 5), (EVERY, 10), (DAILY, 4), (("every", 0, 7), 0), (("once", 9999), 9999)):
            self.assertEqual(meet(SHIFTED, plan, plan, 9999), moment)

    def test_never(self):
        self.assertIsNone(self.meet(PLAIN, ("every", 0, 2), ("every", 1, 2), 9999))
        self.assertIsNone(self.meet(PLAIN, ("daily", 5), ("daily", 6), 9999))
        self.assertIsNone(self.meet(PLAIN, ("daily", 5), ("every", 6, 24), 9999))

    def test_at_moment_0(self):
        for one, other in ((("once", 0), ("every", 0, 5)), (("daily", 0), ("once", 0)), (("every", 0, 2), ("daily", 0))):
            told = self.meet(PLAIN, one, other, 0)
            self.assertEqual((told, type(told)), (0, int))
        self.assertIsNone(self.meet(PLAIN, ("once", 1), ("once", 1), 0))

    def test_at_the_last_moment_and_one_behind_it(self):
        pairs = (((("every", 2, 3), ("every", 4, 5)), 14), ((ONCE, ("once", 5)), 5), ((("daily", 7), ("every", 1, 10)), 31))
        for plans, moment in pairs:
            self.assertEqual(self.meet(PLAIN, *plans, moment), moment)
            self.assertIsNone(self.meet(PLAIN, *plans, moment - 1))
        self.assertEqual(self.meet(PLAIN, ("once", 9999), ("every", 9, 10), 9999), 9999)

    def test_a_wall_put_forward(self):
        # Hour 5 of day 4 is skipped at 100, so that its time comes with that of hour 6.
        self.assertEqual(self.meet(SHIFTED, ("daily", 5), ("daily", 6), 9999), 100)
        self.assertEqual(self.meet(SHIFTED, ("daily", 5), ("daily", 6), 100), 100)
        self.assertIsNone(self.meet(SHIFTED, ("daily", 5), ("daily", 6), 99))
        self.assertIsNone(self.meet(SHIFTED, ("daily", 5), ("daily", 7), 9999))
        # By the wall at first hour 5 comes at 4 and each 24 hours later, ahead by one more at 123.
        self.assertEqual(self.meet(SHIFTED, ("daily", 5), ("every", 3, 24), 9999), 123)

    def test_a_wall_put_back(self):
        # Behind 200 the hour comes 3 later: first at 222.
        self.assertEqual(self.meet(SHIFTED, ("daily", 5), ("every", 6, 24), 9999), 222)
        self.assertIsNone(self.meet(SHIFTED, ("daily", 5), ("every", 6, 24), 221))
        # Hour 8 of day 8 is shown at 198 and at 201, and has its time at the first of them alone.
        self.assertEqual(self.meet(SHIFTED, ("daily", 8), ("once", 198), 9999), 198)
        self.assertIsNone(self.meet(SHIFTED, ("daily", 8), ("once", 201), 9999))

    def test_several_times_at_one_moment(self):
        self.assertEqual(self.meet(LEAPING, ("daily", 0), ("daily", 1), 12), 12)
        self.assertEqual(self.meet(LEAPING, ("daily", 0), ("once", 12), 9999), 12)

    def test_all_moments_are_walked(self):
        self.assertEqual(self.meet(PLAIN, ("every", 0, 1), ("every", 0, 1), 9999), 0)
        self.assertEqual(self.meet(PLAIN, ("every", 0, 1), ("once", 9999), 9999), 9999)


class Gaps(unittest.TestCase):
    def test_once_has_none(self):
        for many in (0, 1, 2, 999):
            self.assertEqual(gaps(PLAIN, ONCE, many), [])

    def test_every(self):
        self.assertEqual(gaps(PLAIN, EVERY, 4), [3, 3, 3, 3])
        self.assertEqual(gaps(PLAIN, ("every", 9999, 999), 1), [999])
        self.assertEqual(gaps(SHIFTED, ("every", 0, 1), 999), [1] * 999)

    def test_daily(self):
        self.assertEqual(gaps(PLAIN, DAILY, 5), [24] * 5)

    def test_daily_over_leaps_both_ways(self):
        self.assertEqual(gaps(SHIFTED, DAILY, 11), [24, 24, 24, 24, 23, 24, 24, 24, 27, 24, 24])
        self.assertEqual(gaps(SHIFTED, ("daily", 4), 6), [24, 24, 24, 24, 23, 24])

    def test_daily_with_several_times_at_one_moment(self):
        self.assertEqual(gaps(LEAPING, ("daily", 0), 4), [0, 22, 24, 24])

    def test_0_and_999(self):
        for plan, step in ((EVERY, 3), (DAILY, 24), (("every", 0, 999), 999)):
            self.assertEqual(gaps(PLAIN, plan, 0), [])
            self.assertEqual(gaps(PLAIN, plan, 999), [step] * 999)

    def test_many(self):
        for many in no_wholes(0, 999) + [-1, 1000, True, False]:
            for plan in (ONCE, EVERY, DAILY):
                with self.assertRaises(NoCount):
                    gaps(PLAIN, plan, many)


class CountAt(unittest.TestCase):
    def check(self, zone, plan, told):
        for moment, count in told.items():
            answer = count_at(zone, plan, moment)
            self.assertEqual((answer, type(answer)), (count, type(count)), moment)

    def test_once(self):
        self.check(PLAIN, ONCE, {0: None, 4: None, 5: 0, 6: 0, 9999: 0})
        self.check(PLAIN, ("once", 0), {0: 0})

    def test_every(self):
        self.check(PLAIN, EVERY, {0: None, 9: None, 10: 0, 11: 0, 12: 0, 13: 1, 15: 1, 16: 2, 9999: 3329})
        self.check(PLAIN, ("every", 0, 1), {0: 0, 1: 1, 9999: 9999})

    def test_daily(self):
        self.check(PLAIN, DAILY, {0: None, 4: None, 5: 0, 28: 0, 29: 1, 9999: 416})

    def test_daily_over_leaps(self):
        self.check(SHIFTED, DAILY, {3: None, 4: 0, 99: 3, 100: 4, 122: 4, 123: 5, 195: 8, 221: 8, 222: 9})
        self.check(SHIFTED, ("daily", 8), {197: 7, 198: 8, 201: 8, 224: 8, 225: 9})

    def test_several_times_at_one_moment(self):
        self.check(LEAPING, ("daily", 0), {0: None, 11: None, 12: 1, 33: 1, 34: 2})


class Refused(unittest.TestCase):
    def tellers(self):
        return (lambda zone, plan, moment: how_many(zone, plan, moment, 5),
                lambda zone, plan, moment: how_many(zone, plan, 5, moment),
                lambda zone, plan, moment: meet(zone, plan, ONCE, moment),
                lambda zone, plan, moment: meet(zone, ONCE, plan, moment),
                count_at)

    def test_no_zone(self):
        for tell in self.tellers() + (gaps,):
            for zone in no_zones():
                with self.assertRaises(NoZone):
                    tell(zone, EVERY, 5)
                with self.assertRaises(NoZone):
                    tell(zone, None, 5)
                with self.assertRaises(NoZone):
                    tell(zone, None, -1)

    def test_no_plan(self):
        for tell in self.tellers() + (gaps,):
            for plan in no_plans():
                with self.assertRaises(NoPlan):
                    tell(PLAIN, plan, 5)
                with self.assertRaises(NoPlan):
                    tell(PLAIN, plan, -1)

    def test_no_moment(self):
        for tell in self.tellers():
            for moment in no_wholes(0, 9999):
                with self.assertRaises(NoMoment):
                    tell(SHIFTED, EVERY, moment)

    def test_two_at_once(self):
        for wrong in (None, True, -1, "", [], Ellipsis):
            for tell in self.tellers() + (gaps,):
                with self.assertRaises(NoZone):
                    tell(wrong, EVERY, wrong)
                with self.assertRaises(NoZone):
                    tell(wrong, wrong, 5)
                with self.assertRaises(NoPlan):
                    tell(PLAIN, wrong, wrong)
            with self.assertRaises(NoPlan):
                meet(PLAIN, wrong, wrong, wrong)
            with self.assertRaises(NoMoment):
                how_many(PLAIN, ONCE, wrong, wrong)
            with self.assertRaises(NoZone):
                meet(wrong, wrong, wrong, wrong)


class InManyZones(unittest.TestCase):
    def test_as_a_walk_finds(self):
        chance = random.Random(71)
        for _ in range(300):
            zone = random_zone(chance, chance.choice((10, 40, 120)))
            plan = random_plan(chance, 60)
            other = random_plan(chance, 60)
            times = walked_times(zone, plan, 300)
            first = chance.randint(0, 120)
            last = chance.randint(0, 120)
            self.assertEqual(how_many(zone, plan, first, last), sum(first <= moment <= last for moment in times))
            by_now = [count for count, moment in enumerate(times) if moment <= last]
            self.assertEqual(count_at(zone, plan, last), by_now[-1] if by_now else None)
            both = set(times) & set(walked_times(zone, other, 300))
            self.assertEqual(meet(zone, plan, other, 300), min(both, default=None))
            self.assertEqual(meet(zone, other, plan, last), min([at for at in both if at <= last], default=None))
            many = chance.randint(0, max(0, len(times) - 1))
            self.assertEqual(gaps(zone, plan, many), [times[at + 1] - times[at] for at in range(many)])

    def test_gaps_lead_from_time_to_time(self):
        for zone in (PLAIN, SHIFTED, SIX, LEAPING):
            for hour in range(24):
                plan = ("daily", hour)
                moment = due(zone, plan, 0)
                for count, gap in enumerate(gaps(zone, plan, 30)):
                    moment += gap
                    self.assertEqual(due(zone, plan, count + 1), moment)


class HandedIn(unittest.TestCase):
    def test_is_as_it_was(self):
        zone = copy.deepcopy(SIX)
        plan = ("every", 10, 3)
        how_many(zone, plan, 0, 50)
        meet(zone, plan, plan, 50)
        gaps(zone, plan, 50)
        count_at(zone, plan, 50)
        self.assertEqual((zone, plan), (SIX, ("every", 10, 3)))

    def test_told_lists_are_new_ones(self):
        for plan in (ONCE, EVERY, DAILY):
            told = gaps(SHIFTED, plan, 9)
            self.assertIs(type(told), list)
            before = list(told)
            told.append("more")
            self.assertEqual(gaps(SHIFTED, plan, 9), before)


if __name__ == "__main__":
    unittest.main()
