import copy
import random
import unittest

from duehall.errors import NoDeed, NoPlan, NoZone
from duehall.hall import Hall, woken
from duehall.plans import due
from duehall.reports import begun_again, by_runner, lateness, long_done, tallies
from duehall.runs import do
from samples import (LEAPING, MIXED, ONE, PLAIN, SHIFTED, all_told, no_plans, no_wholes, no_zones, odd_things,
                     random_deeds, random_zone)

# Deed 0 is left out when late, deed 1 may be done again, deed 2 may not.
DEEDS = ((("every", 0, 4), ("within", 2), True), (("every", 1, 6), "all", True), (("once", 3), "all", False))


def hall_of(deeds, calls, zone=PLAIN):
    hall = Hall(zone, deeds)
    for call in calls:
        told = do(hall, call)
        if told == "refused":
            raise AssertionError(call)
    return hall


def hall_with_all_words():
    """Runner 0 begins time 0 of deed 1, and falls; runner 1 does it, begins deed 2, and falls; runner 2 goes on."""
    return hall_of(DEEDS, [
        ("take", 0, 5, 3), ("step", 0, 5), ("step", 0, 5),
        ("take", 1, 8, 4), ("step", 1, 8), ("finish", 1, 9), ("step", 1, 9),
        ("take", 2, 12, 50), ("step", 2, 12), ("step", 2, 12), ("step", 2, 12), ("finish", 2, 14), ("step", 2, 14)])


ALL_WORDS = [(5, 0, "left", 0, 0), (5, 0, "begun", 1, 0), (8, 1, "begun", 1, 0), (9, 1, "done", 1, 0),
             (9, 1, "begun", 2, 0), (12, 2, "unsure", 2, 0), (12, 2, "left", 0, 1), (12, 2, "begun", 1, 1),
             (14, 2, "done", 1, 1), (14, 2, "left", 0, 2)]


def begun_in_holds(many, again=True):
    """A time that is begun in so many holds, each one hour long, and done in the last one at its moment."""
    calls = []
    for hold in range(many):
        calls += [("take", hold % 4, 10 + hold, 1), ("step", hold % 4, 10 + hold)]
    calls.append(("finish", (many - 1) % 4, 9 + many))
    return hall_of(((("once", 2), "all", again),), calls)


class AllReports(unittest.TestCase):
    def test_the_hall_of_the_tests(self):
        hall = hall_with_all_words()
        self.assertEqual(hall.log(), ALL_WORDS)
        self.assertEqual(tallies(hall), [(0, 0, 3, 0), (3, 2, 0, 0), (1, 0, 0, 1)])
        self.assertEqual(lateness(hall, PLAIN, DEEDS[1][0], 1), [8, 7])
        self.assertEqual(lateness(hall, PLAIN, DEEDS[0][0], 0), [])
        self.assertEqual(lateness(hall, PLAIN, DEEDS[2][0], 2), [])
        self.assertEqual(begun_again(hall), [(1, 0, 2)])
        self.assertEqual(by_runner(hall), [(1, 1), (2, 1)])
        self.assertEqual(long_done(hall), [(1, 0, 1), (1, 1, 2)])

    def test_a_new_hall(self):
        for deeds in (ONE, MIXED, DEEDS):
            hall = Hall(SHIFTED, deeds)
            self.assertEqual(tallies(hall), [(0, 0, 0, 0)] * len(deeds))
            self.assertEqual((begun_again(hall), by_runner(hall), long_done(hall)), ([], [], []))
            for deed in range(len(deeds)):
                self.assertEqual(lateness(hall, SHIFTED, deeds[deed][0], deed), [])

    def test_a_hall_of_no_deeds(self):
        hall = Hall(PLAIN, ())
        self.assertEqual((tallies(hall), begun_again(hall), by_runner(hall), long_done(hall)), ([], [], [], []))
        hall.take(0, 5, 9)
        hall.step(0, 5)
        self.assertEqual((tallies(hall), begun_again(hall), by_runner(hall), long_done(hall)), ([], [], [], []))

    def test_a_hall_that_was_only_held(self):
        hall = hall_of(ONE, [("take", 0, 0, 5), ("step", 0, 1), ("take", 0, 1, 3), ("give", 0, 2)])
        self.assertEqual(tallies(hall), [(0, 0, 0, 0)])
        self.assertEqual((begun_again(hall), by_runner(hall), long_done(hall)), ([], [], []))


class Tallies(unittest.TestCase):
    def test_each_word(self):
        hall = hall_of(((("every", 0, 5), "last", False),), [("take", 0, 11, 2), ("step", 0, 11)])
        self.assertEqual(tallies(hall), [(0, 0, 1, 0)])
        hall.step(0, 11)
        self.assertEqual(tallies(hall), [(0, 0, 2, 0)])
        hall.step(0, 11)
        self.assertEqual(tallies(hall), [(1, 0, 2, 0)])
        hall.finish(0, 12)
        self.assertEqual(tallies(hall), [(1, 1, 2, 0)])
        hall.take(0, 15, 1)
        hall.step(0, 15)
        hall.take(1, 16, 9)
        self.assertEqual(tallies(hall), [(2, 1, 2, 0)])
        hall.step(1, 16)
        self.assertEqual(tallies(hall), [(2, 1, 2, 1)])

    def test_busy_and_idle_are_no_rows(self):
        hall = hall_of(ONE, [("take", 0, 2, 20), ("step", 0, 2), ("step", 0, 2), ("step", 0, 3), ("finish", 0, 3),
                             ("step", 0, 3)])
        self.assertEqual(tallies(hall), [(1, 1, 0, 0)])

    def test_begun_in_several_holds_are_several_rows(self):
        for many in (1, 2, 3, 7):
            self.assertEqual(tallies(begun_in_holds(many)), [(many, 1, 0, 0)])

    def test_by_deeds(self):
        deeds = ((("once", 9), "all", True), (("every", 0, 1), "all", True), (("once", 1), "all", True))
        calls = [("take", 0, 2, 9)] + [("step", 0, 2), ("finish", 0, 2)] * 4 + [("step", 0, 2)]
        self.assertEqual(tallies(hall_of(deeds, calls)), [(0, 0, 0, 0), (3, 3, 0, 0), (1, 1, 0, 0)])


class Lateness(unittest.TestCase):
    def test_at_its_moment_and_later(self):
        hall = hall_of(ONE, [("take", 0, 2, 50), ("step", 0, 2), ("finish", 0, 2), ("step", 0, 7), ("finish", 0, 9),
                             ("step", 0, 20), ("finish", 0, 20), ("step", 0, 20), ("finish", 0, 30)])
        self.assertEqual(lateness(hall, PLAIN, ONE[0][0], 0), [0, 2, 8, 13])

    def test_from_its_moment_not_its_begin(self):
        hall = hall_of(((("once", 2), "all", True),), [("take", 0, 10, 50), ("step", 0, 10), ("finish", 0, 11)])
        self.assertEqual(lateness(hall, PLAIN, ("once", 2), 0), [9])

    def test_by_the_wall(self):
        deeds = ((("daily", 5), "all", True),)
        for zone, moment, late in ((SHIFTED, 4, 0), (SHIFTED, 6, 2), (PLAIN, 6, 1), (LEAPING, 15, 3)):
            hall = hall_of(deeds, [("take", 0, moment, 9), ("step", 0, moment), ("finish", 0, moment)], zone)
            self.assertEqual(lateness(hall, zone, ("daily", 5), 0), [moment - due(zone, ("daily", 5), 0)])
            self.assertEqual(lateness(hall, zone, ("daily", 5), 0), [late])

    def test_a_skipped_hour(self):
        deeds = ((("daily", 5), "last", True),)
        calls = [("take", 0, 102, 9)] + [("step", 0, 102)] * 5 + [("finish", 0, 103)]
        hall = hall_of(deeds, calls, SHIFTED)
        self.assertEqual(tallies(hall), [(1, 1, 4, 0)])
        self.assertEqual(lateness(hall, SHIFTED, ("daily", 5), 0), [3])

    def test_what_nobody_did(self):
        hall = hall_of(ONE + MIXED, [("take", 0, 2, 9), ("step", 0, 2), ("finish", 0, 2)])
        self.assertEqual(lateness(hall, PLAIN, MIXED[1][0], 2), [])
        begun = hall_of(ONE, [("take", 0, 2, 9), ("step", 0, 2)])
        self.assertEqual(lateness(begun, PLAIN, ONE[0][0], 0), [])

    def test_left_and_unsure_ones_are_not_among_them(self):
        hall = hall_of(((("every", 0, 5), "last", False),), [
            ("take", 0, 5, 1), ("step", 0, 5), ("step", 0, 5), ("take", 1, 6, 9), ("step", 1, 6), ("step", 1, 12),
            ("finish", 1, 13)])
        self.assertEqual(tallies(hall), [(2, 1, 1, 1)])
        self.assertEqual(lateness(hall, PLAIN, ("every", 0, 5), 0), [3])

    def test_of_one_deed_alone(self):
        deeds = ((("every", 0, 10), "all", True), (("every", 5, 10), "all", True))
        hall = hall_of(deeds, [("take", 0, 16, 9)] + [("step", 0, 16), ("finish", 0, 16)] * 4)
        self.assertEqual(lateness(hall, PLAIN, ("every", 0, 10), 0), [16, 6])
        self.assertEqual(lateness(hall, PLAIN, ("every", 5, 10), 1), [11, 1])

    def test_no_zone(self):
        for hall in (Hall(PLAIN, MIXED), hall_with_all_words()):
            for zone in no_zones():
                with self.assertRaises(NoZone):
                    lateness(hall, zone, MIXED[0][0], 0)
                with self.assertRaises(NoZone):
                    lateness(hall, zone, None, -1)

    def test_no_plan(self):
        for hall in (Hall(PLAIN, MIXED), hall_with_all_words()):
            for plan in no_plans():
                with self.assertRaises(NoPlan):
                    lateness(hall, PLAIN, plan, 0)
                with self.assertRaises(NoPlan):
                    lateness(hall, PLAIN, plan, -1)

    def test_no_deed(self):
        for deeds in ((), ONE, MIXED, MIXED + MIXED):
            hall = Hall(PLAIN, deeds)
            for deed in no_wholes(0, len(deeds) - 1) + [-1, len(deeds), True, False]:
                with self.assertRaises(NoDeed):
                    lateness(hall, PLAIN, ("once", 5), deed)

    def test_what_is_refused_changes_nothing(self):
        hall = hall_with_all_words()
        before = all_told(hall)
        for thing in odd_things():
            for refusal, zone, plan in ((NoZone, thing, DEEDS[1][0]), (NoPlan, PLAIN, thing), (NoDeed, PLAIN, ("once", 3))):
                with self.assertRaises(refusal):
                    lateness(hall, zone, plan, thing)
        self.assertEqual(all_told(hall), before)


class BegunAgain(unittest.TestCase):
    def test_in_one_two_and_three_holds(self):
        self.assertEqual(begun_again(begun_in_holds(1)), [])
        self.assertEqual(begun_again(begun_in_holds(2)), [(0, 0, 2)])
        self.assertEqual(begun_again(begun_in_holds(3)), [(0, 0, 3)])

    def test_not_done_yet(self):
        hall = hall_of(ONE, [("take", 0, 2, 1), ("step", 0, 2), ("take", 0, 3, 1), ("step", 0, 3)])
        self.assertEqual(begun_again(hall), [(0, 0, 2)])

    def test_busy_is_not_begun_again(self):
        hall = hall_of(ONE, [("take", 0, 2, 9), ("step", 0, 2), ("step", 0, 2), ("take", 0, 3, 9), ("step", 0, 3)])
        self.assertEqual(begun_again(hall), [])

    def test_unsure_ones_are_begun_once(self):
        deeds = ((("once", 2), "all", False),)
        hall = hall_of(deeds, [("take", 0, 2, 1), ("step", 0, 2), ("take", 0, 3, 1), ("step", 0, 3)])
        self.assertEqual(tallies(hall), [(1, 0, 0, 1)])
        self.assertEqual(begun_again(hall), [])

    def test_they_rise_by_deed_and_count_not_as_the_log(self):
        # Deed 1 comes first, by its moment; of deed 0 times 0 and 1 are begun twice.
        deeds = ((("every", 5, 1), "all", True), (("once", 1), "all", True))
        calls = []
        moment = 10
        for times in range(3):
            calls += [("take", 0, moment, 1), ("step", 0, moment), ("take", 1, moment + 1, 1), ("step", 1, moment + 1),
                      ("finish", 1, moment + 1)]
            moment += 2
        hall = hall_of(deeds, calls)
        self.assertEqual([row[3:] for row in hall.log()][0], (1, 0))
        self.assertEqual(begun_again(hall), [(0, 0, 2), (0, 1, 2), (1, 0, 2)])


class ByRunner(unittest.TestCase):
    def test_several_and_none(self):
        hall = hall_of(ONE, [
            ("take", 3, 20, 5), ("step", 3, 20), ("finish", 3, 20), ("step", 3, 20), ("finish", 3, 20), ("give", 3, 20),
            ("take", 2, 20, 5), ("step", 2, 20), ("give", 2, 20),
            ("take", 0, 20, 5), ("step", 0, 20), ("finish", 0, 20), ("give", 0, 20),
            ("take", 3, 21, 5), ("step", 3, 21), ("finish", 3, 21)])
        self.assertEqual(by_runner(hall), [(0, 1), (3, 3)])

    def test_who_did_it_not_who_began_it(self):
        hall = begun_in_holds(2)
        self.assertEqual([row[1:3] for row in hall.log()], [(0, "begun"), (1, "begun"), (1, "done")])
        self.assertEqual(by_runner(hall), [(1, 1)])

    def test_left_and_unsure_ones_are_not_done(self):
        hall = hall_of(((("every", 0, 5), "last", False),), [
            ("take", 0, 5, 1), ("step", 0, 5), ("step", 0, 5), ("take", 1, 6, 9), ("step", 1, 6)])
        self.assertEqual(by_runner(hall), [])

    def test_of_all_deeds(self):
        deeds = ((("once", 1), "all", True), (("once", 1), "all", True), (("once", 2), "all", True))
        hall = hall_of(deeds, [("take", 2, 5, 9)] + [("step", 2, 5), ("finish", 2, 5)] * 3)
        self.assertEqual(by_runner(hall), [(2, 3)])


class LongDone(unittest.TestCase):
    def test_from_the_begin(self):
        hall = hall_of(ONE, [("take", 0, 2, 50), ("step", 0, 2), ("finish", 0, 2), ("step", 0, 8), ("finish", 0, 12)])
        self.assertEqual(long_done(hall), [(0, 0, 0), (0, 1, 4)])

    def test_from_the_last_begin(self):
        hall = hall_of(ONE, [("take", 0, 5, 1), ("step", 0, 5), ("take", 1, 9, 9), ("step", 1, 10), ("finish", 1, 13)])
        self.assertEqual(long_done(hall), [(0, 0, 3)])
        for many in (1, 2, 3):
            self.assertEqual(long_done(begun_in_holds(many)), [(0, 0, 0)])

    def test_busy_is_no_begin(self):
        hall = hall_of(ONE, [("take", 0, 5, 50), ("step", 0, 5), ("step", 0, 8), ("take", 0, 9, 50), ("finish", 0, 13)])
        self.assertEqual(long_done(hall), [(0, 0, 8)])

    def test_by_deeds_and_counts_not_as_the_log(self):
        deeds = ((("every", 3, 5), "all", True), (("every", 1, 3), "all", True))
        hall = hall_of(deeds, [("take", 0, 8, 50), ("step", 0, 8), ("finish", 0, 9), ("step", 0, 9), ("finish", 0, 9),
                               ("step", 0, 10), ("finish", 0, 12), ("step", 0, 12), ("finish", 0, 15)])
        self.assertEqual([row[3:] for row in hall.log() if row[2] == "done"], [(1, 0), (0, 0), (1, 1), (1, 2)])
        self.assertEqual(long_done(hall), [(0, 0, 0), (1, 0, 1), (1, 1, 2), (1, 2, 3)])

    def test_counts_rise_as_numbers(self):
        deeds = ((("every", 0, 1), "all", True),)
        hall = hall_of(deeds, [("take", 0, 20, 50)] + [("step", 0, 20), ("finish", 0, 20)] * 12)
        self.assertEqual(long_done(hall), [(0, count, 0) for count in range(12)])

    def test_only_done_ones(self):
        hall = hall_of(((("every", 0, 5), "last", False),), [
            ("take", 0, 5, 1), ("step", 0, 5), ("step", 0, 5), ("take", 1, 6, 50), ("step", 1, 6), ("step", 1, 12)])
        self.assertEqual(long_done(hall), [])
        hall.finish(1, 20)
        self.assertEqual(long_done(hall), [(0, 2, 8)])


class RandomHalls(unittest.TestCase):
    def random_hall(self, chance):
        zone = random_zone(chance, 60)
        hall = Hall(zone, random_deeds(chance, 60))
        moment = 0
        for _ in range(chance.randint(0, 120)):
            moment += chance.choice((0, 0, 0, 1, 2, 7))
            runner = chance.randint(0, 2)
            do(hall, chance.choice((("take", runner, moment, chance.randint(1, 9)), ("step", runner, moment),
                                    ("step", runner, moment), ("finish", runner, moment), ("give", runner, moment))))
        return hall

    def test_as_the_log_has_it(self):
        chance = random.Random(81)
        for _ in range(300):
            hall = self.random_hall(chance)
            zone, deeds = hall.saved()[:2]
            log = hall.log()
            self.assertEqual(tallies(hall), [
                tuple(sum(row[2:4] == (word, deed) for row in log) for word in ("begun", "done", "left", "unsure"))
                for deed in range(len(deeds))])
            for deed in range(len(deeds)):
                self.assertEqual(lateness(hall, zone, deeds[deed][0], deed), [
                    row[0] - due(zone, deeds[deed][0], row[4]) for row in log if row[2:4] == ("done", deed)])
            begins = [row[3:] for row in log if row[2] == "begun"]
            self.assertEqual(begun_again(hall), sorted({(*which, begins.count(which)) for which in begins
                                                        if begins.count(which) > 1}))
            runners = [row[1] for row in log if row[2] == "done"]
            self.assertEqual(by_runner(hall), sorted({(runner, runners.count(runner)) for runner in runners}))
            self.assertEqual(long_done(hall), sorted(
                (*row[3:], row[0] - max(begun[0] for begun in log if begun[2:] == ("begun", *row[3:])))
                for row in log if row[2] == "done"))

    def test_the_sums_are_the_same(self):
        chance = random.Random(82)
        for _ in range(100):
            hall = self.random_hall(chance)
            done = sum(tally[1] for tally in tallies(hall))
            self.assertEqual(sum(many for runner, many in by_runner(hall)), done)
            self.assertEqual(len(long_done(hall)), done)
            self.assertEqual(sum(map(sum, tallies(hall))), len(hall.log()))

    def test_a_woken_hall_tells_the_same(self):
        chance = random.Random(83)
        for _ in range(50):
            hall = self.random_hall(chance)
            other = woken(hall.saved())
            for tell in (tallies, begun_again, by_runner, long_done):
                self.assertEqual(tell(other), tell(hall))


class HandedIn(unittest.TestCase):
    def tellers(self):
        return (tallies, begun_again, by_runner, long_done, lambda hall: lateness(hall, PLAIN, DEEDS[1][0], 1))

    def test_the_hall_is_as_it_was(self):
        hall = hall_with_all_words()
        before = copy.deepcopy(all_told(hall))
        for tell in self.tellers():
            tell(hall)
        self.assertEqual(all_told(hall), before)

    def test_told_lists_are_new_ones(self):
        for hall in (Hall(PLAIN, DEEDS), hall_with_all_words()):
            before = all_told(hall)
            for tell in self.tellers():
                told = tell(hall)
                self.assertIs(type(told), list)
                kept = list(told)
                told.append("more")
                self.assertEqual(tell(hall), kept)
            self.assertEqual(all_told(hall), before)

    def test_told_are_tuples_and_whole_numbers(self):
        hall = hall_with_all_words()
        for tell in self.tellers()[:4]:
            self.assertEqual({type(row) for row in tell(hall)}, {tuple})
            self.assertEqual({type(number) for row in tell(hall) for number in row}, {int})
        self.assertEqual({type(number) for number in lateness(hall, PLAIN, DEEDS[1][0], 1)}, {int})


if __name__ == "__main__":
    unittest.main()
