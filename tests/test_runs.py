import copy
import unittest

from duehall.errors import NoCall, NoCount, NoDeeds, NoMoment, NoRunner, NotHolder, NoZone
from duehall.hall import Hall, woken
from duehall.runs import catch_up, do, run
from samples import (MIXED, ONE, PLAIN, SHIFTED, Touchy, all_told, no_deeds, no_wholes, no_zones, odd_things)

WORDS = ("take", "give", "step", "finish")


def no_calls():
    calls = odd_things() + [0, 10 ** 30, "take", "step"]
    calls += [(word,) for word in WORDS] + [(word, 0) for word in WORDS]
    calls += [("take", 0, 5), ("take", 0, 5, 5, 5), ("give", 0, 5, 5), ("step", 0, 5, 5), ("finish", 0, 5, 5)]
    calls += [["take", 0, 5, 5], ["give", 0, 5], ["step", 0, 5], ["finish", 0, 5]]
    calls += [("Take", 0, 5, 5), ("held", 0, 5), ("", 0, 5), ("steps", 0, 5), ("step ", 0, 5), (b"step", 0, 5)]
    calls += [(thing, 0, 5) for thing in odd_things()] + [(thing, 0, 5, 5) for thing in odd_things()]
    calls += [(0, "step", 5), (("step",), 0, 5), (["take"], 0, 5, 5), (Touchy(), Touchy(), Touchy())]
    return calls


class Do(unittest.TestCase):
    def test_each_of_the_four_calls(self):
        hall = Hall(PLAIN, ONE)
        self.assertIs(do(hall, ("take", 0, 5, 10)), True)
        self.assertIs(do(hall, ("take", 1, 5, 10)), False)
        self.assertEqual(hall.held(), (0, 15, 1))
        self.assertEqual(do(hall, ("step", 0, 6)), ("begun", 0, 0))
        self.assertEqual(do(hall, ("step", 0, 6)), ("busy", 0, 0))
        self.assertEqual(do(hall, ("finish", 0, 6)), ("done", 0, 0))
        self.assertEqual(do(hall, ("step", 0, 6)), ("idle", 7))
        self.assertIsNone(do(hall, ("give", 0, 8)))
        self.assertEqual(hall.held(), (None, 15, 1))
        self.assertEqual(hall.log(), [(6, 0, "begun", 0, 0), (6, 0, "done", 0, 0)])

    def test_left_and_unsure(self):
        hall = Hall(PLAIN, ((("every", 0, 5), "last", False),))
        for call, told in ((("take", 0, 5, 1), True), (("step", 0, 5), ("left", 0, 0)), (("step", 0, 5), ("begun", 0, 1)),
                           (("take", 1, 6, 1), True), (("step", 1, 6), ("unsure", 0, 1))):
            self.assertEqual(do(hall, call), told)

    def test_refused(self):
        hall = Hall(PLAIN, ONE)
        do(hall, ("take", 0, 5, 10))
        before = all_told(hall)
        calls = [("take", 4, 5, 10), ("take", 0, 4, 10), ("take", 0, 5, 0), ("step", 1, 5), ("step", 0, 15),
                 ("step", 0, 4), ("give", 1, 5), ("give", True, 5), ("give", 0, 10000), ("finish", 0, 5),
                 ("finish", 1, 5), ("finish", 0, None)]
        for thing in odd_things():
            calls += [("take", thing, 5, 10), ("take", 0, thing, 10), ("take", 0, 5, thing)]
            calls += [(word, thing, 5) for word in WORDS[1:]] + [(word, 0, thing) for word in WORDS[1:]]
        for call in calls:
            self.assertEqual(do(hall, call), "refused")
            self.assertEqual(all_told(hall), before)

    def test_what_is_no_call(self):
        hall = Hall(PLAIN, ONE)
        hall.take(0, 5, 10)
        before = all_told(hall)
        for call in no_calls():
            with self.assertRaises(NoCall):
                do(hall, call)
            self.assertEqual(all_told(hall), before)


class Run(unittest.TestCase):
    CALLS = [("take", 0, 5, 10), ("step", 0, 6), ("step", 1, 6), ("finish", 0, 6), ("finish", 0, 6), ("give", 0, 8)]

    def test_a_tuple_of_the_hall_and_what_was_told(self):
        told = run(PLAIN, ONE, self.CALLS)
        self.assertIs(type(told), tuple)
        self.assertEqual(len(told), 2)
        self.assertIsInstance(told[0], Hall)
        self.assertEqual(told[1], [True, ("begun", 0, 0), "refused", ("done", 0, 0), "refused", None])
        self.assertIs(type(told[1]), list)
        self.assertEqual(told[0].held(), (None, 15, 1))

    def test_the_hall_is_as_behind_the_same_calls(self):
        hall = Hall(SHIFTED, MIXED)
        one_by_one = [do(hall, call) for call in self.CALLS]
        other, told = run(SHIFTED, MIXED, self.CALLS)
        self.assertEqual(told, one_by_one)
        self.assertEqual(all_told(other), all_told(hall))

    def test_no_calls_at_all(self):
        hall, told = run(SHIFTED, MIXED, [])
        self.assertEqual((all_told(hall), told), (all_told(Hall(SHIFTED, MIXED)), []))

    def test_each_run_has_a_hall_of_its_own(self):
        one, told = run(PLAIN, ONE, self.CALLS)
        before = all_told(one)
        other, told_later = run(PLAIN, ONE, self.CALLS)
        self.assertEqual(told, told_later)
        other.take(3, 90, 9)
        told_later.append("more")
        self.assertEqual(all_told(one), before)
        self.assertEqual(run(PLAIN, ONE, self.CALLS)[1], told)

    def test_what_is_handed_in_is_as_it_was(self):
        calls = copy.deepcopy(self.CALLS)
        run(PLAIN, ONE, calls)
        self.assertEqual(calls, self.CALLS)

    def test_no_zone_and_no_deeds(self):
        for zone in no_zones():
            with self.assertRaises(NoZone):
                run(zone, ONE, self.CALLS)
        for deeds in no_deeds():
            with self.assertRaises(NoDeeds):
                run(PLAIN, deeds, self.CALLS)

    def test_no_call(self):
        for call in no_calls():
            for calls in ([call], self.CALLS + [call], [call] + self.CALLS):
                with self.assertRaises(NoCall):
                    run(PLAIN, ONE, calls)

    def test_no_list_of_calls(self):
        for calls in [thing for thing in odd_things() if not isinstance(thing, list)] + [0, tuple(self.CALLS)]:
            with self.assertRaises(NoCall):
                run(PLAIN, ONE, calls)

    def test_first_named_is_first_told(self):
        for calls in ([None], None, [()]):
            with self.assertRaises(NoZone):
                run((15, ()), None, calls)
            with self.assertRaises(NoZone):
                run((15, ()), ONE, calls)
            with self.assertRaises(NoDeeds):
                run(PLAIN, None, calls)


class CatchUp(unittest.TestCase):
    def hall(self, late="all", again=True):
        hall = Hall(PLAIN, ((("every", 2, 5), late, again),))
        hall.take(0, 13, 10)
        return hall

    def test_until_it_is_idle(self):
        hall = self.hall()
        self.assertEqual(catch_up(hall, 0, 13, 999), [("begun", 0, 0), ("done", 0, 0), ("begun", 0, 1), ("done", 0, 1),
                                                      ("begun", 0, 2), ("done", 0, 2), ("idle", 17)])
        self.assertEqual([row[:3] for row in hall.log()], [(13, 0, "begun"), (13, 0, "done")] * 3)
        self.assertEqual(hall.waiting(), [0])

    def test_left_ones_are_steps_too(self):
        hall = self.hall("last")
        self.assertEqual(catch_up(hall, 0, 13, 3), [("left", 0, 0), ("left", 0, 1), ("begun", 0, 2), ("done", 0, 2)])
        self.assertEqual(catch_up(hall, 0, 13, 1), [("idle", 17)])

    def test_fewer_steps_than_there_are(self):
        hall = self.hall()
        self.assertEqual(catch_up(hall, 0, 13, 1), [("begun", 0, 0), ("done", 0, 0)])
        self.assertEqual(catch_up(hall, 0, 13, 2), [("begun", 0, 1), ("done", 0, 1), ("begun", 0, 2), ("done", 0, 2)])
        self.assertEqual(catch_up(hall, 0, 13, 2), [("idle", 17)])

    def test_exactly_as_many_steps_as_there_are(self):
        self.assertEqual(catch_up(self.hall(), 0, 13, 3)[-1], ("done", 0, 2))
        self.assertEqual(catch_up(self.hall(), 0, 13, 4)[-1], ("idle", 17))

    def test_no_step(self):
        hall = self.hall()
        before = all_told(hall)
        self.assertEqual(catch_up(hall, 0, 13, 0), [])
        self.assertEqual(catch_up(hall, 0, 20, 0), [])
        self.assertEqual(all_told(hall), before)

    def test_busy_at_its_begin(self):
        hall = self.hall()
        hall.step(0, 13)
        self.assertEqual(catch_up(hall, 0, 14, 2), [("busy", 0, 0), ("done", 0, 0), ("begun", 0, 1), ("done", 0, 1)])

    def test_begun_in_an_earlier_hold(self):
        for again, rows in ((True, [("begun", 0, 0), ("done", 0, 0)]), (False, [("unsure", 0, 0)])):
            hall = self.hall("all", again)
            hall.step(0, 13)
            hall.give(0, 13)
            hall.take(1, 13, 5)
            self.assertEqual(catch_up(hall, 1, 13, 1), rows)
            self.assertEqual(catch_up(hall, 1, 13, 1), [("begun", 0, 1), ("done", 0, 1)])

    def test_twice_at_one_moment(self):
        hall = self.hall()
        catch_up(hall, 0, 13, 999)
        rows = hall.log()
        self.assertEqual(catch_up(hall, 0, 13, 999), [("idle", 17)])
        self.assertEqual(hall.log(), rows)

    def test_no_time_any_more(self):
        hall = Hall(PLAIN, ())
        hall.take(0, 0, 5)
        self.assertEqual(catch_up(hall, 0, 3, 999), [("idle", None)])

    def test_most_steps_there_can_be(self):
        hall = Hall(PLAIN, ((("every", 0, 1), "all", True),))
        hall.take(0, 2000, 5)
        told = catch_up(hall, 0, 2000, 999)
        self.assertEqual((len(told), told[-1]), (2 * 999, ("done", 0, 998)))

    def test_no_count(self):
        hall = self.hall()
        before = all_told(hall)
        for most in no_wholes(0, 999):
            with self.assertRaises(NoCount):
                catch_up(hall, 0, 13, most)
            with self.assertRaises(NoCount):
                catch_up(hall, 4, -1, most)
            self.assertEqual(all_told(hall), before)

    def test_what_the_hall_refuses(self):
        hall = self.hall()
        before = all_told(hall)
        for refusal, runner, moment in ((NoRunner, 4, 13), (NoRunner, True, 12), (NoMoment, 0, 12), (NoMoment, 0, 10000),
                                        (NoMoment, 1, None), (NotHolder, 1, 13), (NotHolder, 0, 23)):
            for most in (1, 999):
                with self.assertRaises(refusal):
                    catch_up(hall, runner, moment, most)
            self.assertEqual(all_told(hall), before)

    def test_told_lists_are_new_ones(self):
        hall = self.hall()
        saved = hall.saved()
        told = catch_up(hall, 0, 13, 999)
        before = list(told)
        told.clear()
        self.assertEqual(catch_up(woken(saved), 0, 13, 999), before)
        self.assertEqual(len(hall.log()), 6)


if __name__ == "__main__":
    unittest.main()
