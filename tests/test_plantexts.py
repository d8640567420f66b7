import copy
import random
import unittest

from duehall.errors import NoPlan, NoText, NoZone
from duehall.plantexts import plan_text, read_plan, read_zone, zone_text
from samples import PLAIN, SIX, Touchy, no_plans, no_zones, odd_things, random_zone

ZONES = {
    "+3 100-2 200+0": (3, ((100, -2), (200, 0))),
    "+0": (0, ()),
    "-12": (-12, ()),
    "+14": (14, ()),
    "-1": (-1, ()),
    "+9": (9, ()),
    "+10": (10, ()),
    "+0 1+0": (0, ((1, 0),)),
    "+0 1-12": (0, ((1, -12),)),
    "-12 1+14": (-12, ((1, 14),)),
    "+14 9999-12": (14, ((9999, -12),)),
    "+0 9999+10": (0, ((9999, 10),)),
    "-10 1000-1 2000+1": (-10, ((1000, -1), (2000, 1))),
    "+3 10+4 20+3 30-12 31+14 32+14 40+0": SIX,
    "+0 1+0 2+0 3+0 4+0 5+0 9999+0": (0, ((1, 0), (2, 0), (3, 0), (4, 0), (5, 0), (9999, 0))),
}
PLANS = {
    "once at 5": ("once", 5),
    "once at 0": ("once", 0),
    "once at 9999": ("once", 9999),
    "once at 100": ("once", 100),
    "every 3 from 10": ("every", 10, 3),
    "every 1 from 0": ("every", 0, 1),
    "every 999 from 9999": ("every", 9999, 999),
    "every 999 from 0": ("every", 0, 999),
    "every 1 from 9999": ("every", 9999, 1),
    "every 10 from 3": ("every", 3, 10),
    "daily at 7": ("daily", 7),
    "daily at 0": ("daily", 0),
    "daily at 23": ("daily", 23),
    "daily at 10": ("daily", 10),
}
# What the tests of changed texts put in: figures of other writings, and blanks that are no blank, too.
SIGNS = "0123456789+- \n\t\r\x00\x0b\x0c\x1f\x85\xa0\u2003\u200b.,:_aeOD\u0660\u0665\uff15\u00b2\u2212\ufeff\U0001d7d8"


def changed_texts(text):
    """All texts that one sign left out, put in, put for another, or exchanged with another makes of a text."""
    told = set()
    for place in range(len(text) + 1):
        told.add(text[:place] + text[place + 1:])
        for sign in SIGNS:
            told.add(text[:place] + sign + text[place:])
            told.add(text[:place] + sign + text[place + 1:])
        for other in range(place + 1, len(text)):
            signs = list(text)
            signs[place] = text[other]
            signs[other] = text[place]
            told.add("".join(signs))
    return sorted(told)


def no_texts():
    things = [thing for thing in odd_things() if not isinstance(thing, str)]
    return things + [0, 5, 10 ** 30, b"+0", b"once at 5", ["+0"], ["once at 5"], ("+0",), ("once at 5",), PLAIN,
                     ("once", 5), bytearray(b"+0"), list("+0"), Touchy()]


def told_or_refused(read, text):
    try:
        return read(text)
    except NoText:
        return "refused"


class Written(unittest.TestCase):
    def test_zones(self):
        for text, zone in ZONES.items():
            self.assertEqual(zone_text(zone), text)

    def test_plans(self):
        for text, plan in PLANS.items():
            self.assertEqual(plan_text(plan), text)

    def test_a_text_is_told(self):
        self.assertIs(type(zone_text(SIX)), str)
        self.assertIs(type(plan_text(("every", 10, 3))), str)

    def test_no_zone(self):
        for zone in no_zones():
            with self.assertRaises(NoZone):
                zone_text(zone)

    def test_no_plan(self):
        for plan in no_plans():
            with self.assertRaises(NoPlan):
                plan_text(plan)

    def test_a_zone_is_no_plan_and_a_text_is_neither(self):
        for zone in ("+0", ("once", 5)):
            with self.assertRaises(NoZone):
                zone_text(zone)
        for plan in ("once at 5", PLAIN):
            with self.assertRaises(NoPlan):
                plan_text(plan)


class ReadBack(unittest.TestCase):
    def test_zones(self):
        for text, zone in ZONES.items():
            self.assertEqual(read_zone(text), zone)

    def test_plans(self):
        for text, plan in PLANS.items():
            self.assertEqual(read_plan(text), plan)

    def test_tuples_of_tuples_and_whole_numbers_are_told(self):
        for text in ZONES:
            zone = read_zone(text)
            self.assertEqual((type(zone), type(zone[0]), type(zone[1])), (tuple, int, tuple))
            for shift in zone[1]:
                self.assertEqual((type(shift), [type(number) for number in shift]), (tuple, [int, int]))
        for text in PLANS:
            plan = read_plan(text)
            self.assertEqual((type(plan), type(plan[0])), (tuple, str))
            self.assertEqual({type(number) for number in plan[1:]}, {int})

    def test_each_hour_ahead(self):
        for ahead in range(-12, 15):
            for zone in ((ahead, ()), (0, ((5, ahead),)), (ahead, ((5, -ahead if ahead < 13 else 0),))):
                self.assertEqual(read_zone(zone_text(zone)), zone)

    def test_many_zones(self):
        chance = random.Random(51)
        for _ in range(500):
            zone = random_zone(chance, chance.choice((10, 100, 1000, 10000)))
            self.assertEqual(read_zone(zone_text(zone)), zone)

    def test_all_plans_of_one_number(self):
        for moment in range(10000):
            self.assertEqual(read_plan(plan_text(("once", moment))), ("once", moment))
        for hour in range(24):
            self.assertEqual(read_plan(plan_text(("daily", hour))), ("daily", hour))

    def test_all_steps(self):
        for step in range(1, 1000):
            plan = ("every", 11 * step % 10000, step)
            self.assertEqual(read_plan(plan_text(plan)), plan)


class NoZoneText(unittest.TestCase):
    def refuse(self, *texts):
        for text in texts:
            with self.assertRaises(NoText, msg=repr(text)):
                read_zone(text)

    def test_signs_left_out_put_in_or_exchanged(self):
        self.refuse("3 100-2 200+0", "+3 1002 200+0", "+3 100-2200+0", "+3100-2 200+0", "+3 100-2 200", "+3 -2 200+0",
                    "+3 100- 200+0", "+ 100-2 200+0", "++3", "+-3", "-+3", "+3 100--2", "+3 100-+2", "+3 100+-2",
                    "+3 +100-2", "+3 -100-2", "3+ 100-2", "+3 100 -2", "+3 -2100", "+3,100-2", "+3 100-2-2", "+3-2",
                    "+3 100-2+", "+3+", "+3 100:-2", "3+", "+", "-", "100-2", "+3 100", "+3 2-")

    def test_needless_figures(self):
        self.refuse("-0", "+3 100-0", "+00", "+03", "-00", "-01", "+3 0100-2", "+3 100-02", "+3 100+00", "+3 00-2",
                    "+0000000003", "+3 000000100-2", "0", "00")

    def test_figures_of_other_writings(self):
        self.refuse("+\u0663", "+\uff13", "+\u00b3", "+3 \u0661\u0660\u0660-2", "+1_0", "+3 1_00-2", "+0x3", "+1e1",
                    "+3.0", "+III", "\u22123", "\uff0b3", "+\U0001d7db")

    def test_blanks(self):
        self.refuse("", " ", "  ", " +3", "+3 ", "+3  100-2", "+3 100-2 ", " +3 100-2", "+ 3", "+3 100 -2", "+3 100- 2",
                    "+3\t100-2", "+3\n100-2", "+3\xa0100-2", "+3\u2003100-2")

    def test_line_feeds(self):
        self.refuse("+3\n", "\n+3", "+3 100-2\n", "+3\r\n", "+3 100-2\r", "\n", "+3\x00", "+3\x0b", "+3\x85", "+3\u2028")

    def test_ahead_that_can_not_be(self):
        self.refuse("+15", "-13", "+100", "-100", "+3 100+15", "+3 100-13", "+3 100-2 200+15", "+9999", "-9999")

    def test_moments_that_do_not_rise(self):
        self.refuse("+3 200-2 100+0", "+3 100-2 100+0", "+3 100-2 100-2", "+3 5+0 7+0 6+0")

    def test_moments_that_can_not_be(self):
        self.refuse("+3 0-2", "+3 10000-2", "+3 0+3", "+3 5+1 10000+2", "+3 99999-2")

    def test_seven_shifts(self):
        seven = "+0 1+0 2+0 3+0 4+0 5+0 6+0 7+0"
        self.assertEqual(len(read_zone(seven[:-4])[1]), 6)
        self.refuse(seven, "+0" + " 1+0" * 10000)

    def test_very_long_figures(self):
        for many in (5, 100, 4300, 4301, 100000):
            self.refuse("+" + "1" * many, "+" + "0" * many, "+3 " + "1" * many + "-2", "+3 100-" + "2" * many)

    def test_texts_of_plans(self):
        self.refuse(*PLANS)
        self.refuse("(3, ((100, -2), (200, 0)))")

    def test_what_is_no_text(self):
        for thing in no_texts():
            with self.assertRaises(NoText):
                read_zone(thing)

    def test_what_is_read_of_changed_texts_is_written_so(self):
        for text in ("+0", "-12", "+14 9999-12", "+3 100-2 200+0", "+0 1+0 2-1"):
            for changed in changed_texts(text):
                zone = told_or_refused(read_zone, changed)
                if zone != "refused":
                    self.assertEqual(zone_text(zone), changed)


class NoPlanText(unittest.TestCase):
    def refuse(self, *texts):
        for text in texts:
            with self.assertRaises(NoText, msg=repr(text)):
                read_plan(text)

    def test_signs_left_out_put_in_or_exchanged(self):
        self.refuse("onc at 5", "nce at 5", "once a 5", "once t 5", "onceat 5", "once at5", "once at ", "once at",
                    "once 5", "oncee at 5", "once att 5", "ocne at 5", "once ta 5", "once at 5.", "once at +5",
                    "once at -5", "once at -0", "every from 10", "every 3 from", "every 3 10", "every 3 from10",
                    "every3 from 10", "every 3 form 10", "every 3 from -10", "every +3 from 10", "evrey 3 from 10",
                    "daily a 7", "dialy at 7", "daily at +7", "daily 7", "daily at", "daily at7", "daily at 7h",
                    "at 5 once", "5 at once", "once", "every", "daily", "every 3 from 10 from 3", "once at 5 5",
                    "once at 5 once at 5", "once at 5\nonce at 5", "every 3", "every 3 from 10 at 5")

    def test_words_of_other_plans(self):
        self.refuse("once from 5", "daily from 7", "every 3 at 10", "once 3 from 10", "daily 3 from 10", "every at 5",
                    "every 10", "never at 5", "once 3 at 5", "weekly at 5", "once by 5", "last at 5")

    def test_needless_figures(self):
        self.refuse("once at 05", "once at 00", "every 03 from 10", "every 3 from 010", "every 3 from 00", "daily at 07",
                    "daily at 00", "once at 00005", "daily at 000000000007")

    def test_figures_of_other_writings(self):
        self.refuse("once at \u0665", "once at \uff15", "once at \u00b2", "every \u0663 from 10", "every 3 from \u0661",
                    "daily at \u0667", "once at 1_0", "once at 0x5", "once at 5.0", "once at five", "once at 1e1")

    def test_blanks(self):
        self.refuse("", " ", "  ", " once at 5", "once at 5 ", "once  at 5", "once at  5", "every  3 from 10",
                    "every 3  from 10", "every 3 from  10", "daily at 7 ", "daily at  7", "once\tat 5", "once at\t5",
                    "once\xa0at 5", "once at\n5", " every 3 from 10", "every 3 from 10 ")

    def test_line_feeds(self):
        self.refuse("once at 5\n", "\nonce at 5", "every 3 from 10\n", "daily at 7\n", "daily at 7\r\n", "once at 5\x00",
                    "once at 5\x0b", "once at 5\x85", "once at 5\u2028")

    def test_numbers_that_can_not_be(self):
        self.refuse("once at 10000", "every 0 from 10", "every 1000 from 10", "every 3 from 10000", "daily at 24",
                    "daily at 99", "daily at 100", "every 9999 from 3", "every 1000 from 10000", "daily at 9999")

    def test_very_long_figures(self):
        for many in (5, 100, 4300, 4301, 100000):
            figures = "1" * many
            self.refuse(f"once at {figures}", f"every {figures} from 1", f"every 1 from {figures}", f"daily at {figures}",
                        "once at " + "0" * many)

    def test_words_in_other_letters(self):
        self.refuse("Once at 5", "ONCE AT 5", "once At 5", "Every 3 from 10", "every 3 From 10", "EVERY 3 FROM 10",
                    "Daily at 7", "daily AT 7", "\u043fnce at 5", "onc\u0435 at 5", "\uff4fnce at 5")

    def test_texts_of_zones(self):
        self.refuse(*ZONES)
        self.refuse("('once', 5)")

    def test_what_is_no_text(self):
        for thing in no_texts():
            with self.assertRaises(NoText):
                read_plan(thing)

    def test_what_is_read_of_changed_texts_is_written_so(self):
        for text in ("once at 0", "once at 9999", "every 3 from 10", "every 999 from 9999", "daily at 7", "daily at 23"):
            for changed in changed_texts(text):
                plan = told_or_refused(read_plan, changed)
                if plan != "refused":
                    self.assertEqual(plan_text(plan), changed)


class HandedIn(unittest.TestCase):
    def test_is_as_it_was(self):
        zone = copy.deepcopy(SIX)
        plan = ("every", 10, 3)
        zone_text(zone)
        plan_text(plan)
        self.assertEqual((zone, plan), (SIX, ("every", 10, 3)))
        wrong = [["+0"], [3, [[100, -2]]]]
        for thing in wrong:
            for read in (read_zone, read_plan):
                with self.assertRaises(NoText):
                    read(thing)
        with self.assertRaises(NoZone):
            zone_text(wrong[1])
        self.assertEqual(wrong, [["+0"], [3, [[100, -2]]]])


if __name__ == "__main__":
    unittest.main()
