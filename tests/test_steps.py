"""What the holder does next, and what is done."""

import random
import unittest

from duehall.errors import NotHolder, Nothing
from duehall.hall import Hall
from samples import LEAPING, PLAIN, SHIFTED, random_deeds, random_zone


def held_hall(zone, deeds, moment=0, runner=0):
    hall = Hall(zone, deeds)
    hall.take(runner, moment, 99)
    return hall


def settle(hall, runner, moment):
    """Steps and finishing at one moment, until the holder is idle."""
    told = []
    row = hall.step(runner, moment)
    while row[0] != "idle":
        told.append(row)
        if row[0] == "begun":
            hall.finish(runner, moment)
        row = hall.step(runner, moment)
    return told


class Idle(unittest.TestCase):
    def test_with_the_moment_of_the_next_time(self):
        hall = held_hall(PLAIN, ((("once", 7), "all", True), (("every", 5, 3), "all", True)))
        self.assertEqual(hall.step(0, 0), ("idle", 5))
        self.assertEqual(hall.step(0, 4), ("idle", 5))
        self.assertEqual(settle(hall, 0, 5), [("begun", 1, 0)])
        self.assertEqual(hall.step(0, 5), ("idle", 7))
        self.assertEqual(settle(hall, 0, 7), [("begun", 0, 0)])
        self.assertEqual(hall.step(0, 7), ("idle", 8))
        self.assertEqual([row[2] for row in hall.log()], ["begun", "done", "begun", "done"])

    def test_without_any_deed(self):
        self.assertEqual(held_hall(PLAIN, ()).step(0, 9), ("idle", None))

    def test_where_there_is_no_time_any_more(self):
        hall = held_hall(PLAIN, ((("once", 3), "all", True), (("once", 3), "all", False)))
        self.assertEqual(settle(hall, 0, 3), [("begun", 0, 0), ("begun", 1, 0)])
        self.assertEqual(hall.step(0, 3), ("idle", None))
        self.assertEqual(hall.step(0, 90), ("idle", None))

    def test_with_a_moment_behind_the_last_one(self):
        hall = held_hall(PLAIN, ((("every", 9999, 5), "all", True),), 9999)
        self.assertEqual(settle(hall, 0, 9999), [("begun", 0, 0)])
        self.assertEqual(hall.step(0, 9999), ("idle", 10004))

    def test_nothing_is_done(self):
        hall = held_hall(PLAIN, ((("once", 7), "all", True),))
        hall.step(0, 6)
        self.assertEqual((hall.log(), hall.waiting(), hall.state(0, 0)), ([], [0], "coming"))


class BegunAndDone(unittest.TestCase):
    def test_begun_then_busy_then_done(self):
        hall = held_hall(PLAIN, ((("every", 5, 10), "all", False),))
        self.assertEqual(hall.step(0, 5), ("begun", 0, 0))
        self.assertEqual(hall.step(0, 5), ("busy", 0, 0))
        self.assertEqual(hall.step(0, 40), ("busy", 0, 0))
        self.assertEqual(hall.finish(0, 41), ("done", 0, 0))
        self.assertEqual(hall.log(), [(5, 0, "begun", 0, 0), (41, 0, "done", 0, 0)])
        self.assertEqual(hall.step(0, 41), ("begun", 0, 1))

    def test_busy_in_a_hold_that_is_held_longer(self):
        hall = held_hall(PLAIN, ((("once", 5), "all", False),))
        hall.step(0, 5)
        hall.take(0, 6, 50)
        hall.take(1, 7, 50)
        self.assertEqual(hall.step(0, 8), ("busy", 0, 0))
        self.assertEqual(hall.finish(0, 55), ("done", 0, 0))

    def test_finish_where_nothing_is_begun(self):
        hall = held_hall(PLAIN, ((("once", 5), "all", True),))
        with self.assertRaises(Nothing):
            hall.finish(0, 4)
        hall.step(0, 4)
        with self.assertRaises(Nothing):
            hall.finish(0, 5)
        hall.step(0, 5)
        hall.finish(0, 5)
        with self.assertRaises(Nothing):
            hall.finish(0, 5)

    def test_finish_behind_a_left_one(self):
        hall = held_hall(PLAIN, ((("once", 5), ("within", 0), True),))
        self.assertEqual(hall.step(0, 6), ("left", 0, 0))
        with self.assertRaises(Nothing):
            hall.finish(0, 6)


class BegunInAnEarlierHold(unittest.TestCase):
    def fallen(self, again, late="all"):
        hall = Hall(PLAIN, ((("every", 2, 20), late, again),))
        hall.take(0, 0, 10)
        self.assertEqual(hall.step(0, 3), ("begun", 0, 0))
        return hall

    def test_begun_anew_where_it_may_be_done_again(self):
        hall = self.fallen(True)
        hall.take(1, 10, 10)
        with self.assertRaises(Nothing):
            hall.finish(1, 10)
        self.assertEqual(hall.step(1, 11), ("begun", 0, 0))
        self.assertEqual(hall.step(1, 12), ("busy", 0, 0))
        self.assertEqual(hall.finish(1, 13), ("done", 0, 0))
        self.assertEqual(hall.step(1, 13), ("idle", 22))
        self.assertEqual(hall.log(), [(3, 0, "begun", 0, 0), (11, 1, "begun", 0, 0), (13, 1, "done", 0, 0)])

    def test_unsure_where_it_may_not(self):
        hall = self.fallen(False)
        hall.take(1, 10, 20)
        self.assertEqual(hall.step(1, 11), ("unsure", 0, 0))
        with self.assertRaises(Nothing):
            hall.finish(1, 11)
        self.assertEqual(hall.step(1, 11), ("idle", 22))
        self.assertEqual(hall.step(1, 22), ("begun", 0, 1))
        self.assertEqual(hall.log(), [(3, 0, "begun", 0, 0), (11, 1, "unsure", 0, 0), (22, 1, "begun", 0, 1)])

    def test_the_same_runner_in_a_new_hold(self):
        for again, word in ((True, "begun"), (False, "unsure")):
            hall = self.fallen(again)
            hall.give(0, 4)
            hall.take(0, 4, 10)
            with self.assertRaises(Nothing):
                hall.finish(0, 4)
            self.assertEqual(hall.step(0, 4), (word, 0, 0))
            hall = self.fallen(again)
            hall.take(0, 10, 10)
            self.assertEqual(hall.step(0, 10), (word, 0, 0))

    def test_a_fallen_runner_comes_again_behind_another_one(self):
        hall = self.fallen(True)
        hall.take(1, 10, 10)
        hall.step(1, 10)
        for call in (hall.finish, hall.step, hall.give):
            with self.assertRaises(NotHolder):
                call(0, 11)
        hall.give(1, 12)
        hall.take(0, 12, 10)
        with self.assertRaises(Nothing):
            hall.finish(0, 12)
        self.assertEqual(hall.state(0, 0), "begun")
        self.assertEqual(hall.step(0, 13), ("begun", 0, 0))
        self.assertEqual(hall.finish(0, 13), ("done", 0, 0))
        self.assertEqual([row[1:3] for row in hall.log()], [(0, "begun"), (1, "begun"), (0, "begun"), (0, "done")])

    def test_settled_meanwhile_a_fallen_runner_finishes_nothing(self):
        hall = self.fallen(False)
        hall.take(1, 10, 5)
        hall.step(1, 10)
        hall.take(0, 15, 5)
        with self.assertRaises(Nothing):
            hall.finish(0, 15)
        self.assertEqual(hall.state(0, 0), "unsure")

    def test_late_ones_are_begun_anew_all_the_same(self):
        for late in ("last", ("within", 0)):
            for again, word in ((True, "begun"), (False, "unsure")):
                hall = Hall(PLAIN, ((("every", 2, 20), late, again),))
                hall.take(0, 2, 5)
                self.assertEqual(hall.step(0, 2), ("begun", 0, 0))
                hall.take(1, 50, 10)
                self.assertEqual(hall.step(1, 50), (word, 0, 0))

    def test_ahead_of_all_else(self):
        hall = Hall(PLAIN, tuple((("once", 5), "all", again) for again in (False, True)))
        hall.take(0, 5, 1)
        self.assertEqual(hall.step(0, 5), ("begun", 0, 0))
        hall.take(1, 6, 9)
        self.assertEqual([hall.step(1, 6) for _ in range(3)], [("unsure", 0, 0), ("begun", 1, 0), ("busy", 1, 0)])

    def test_what_is_done_is_not_begun_again_in_a_later_hold(self):
        hall = self.fallen(True)
        hall.finish(0, 9)
        hall.take(1, 10, 10)
        self.assertEqual(hall.step(1, 10), ("idle", 22))


class Late(unittest.TestCase):
    def told(self, plan, late, moment, zone=PLAIN):
        return settle(held_hall(zone, ((plan, late, True),), moment), 0, moment)

    def test_all(self):
        self.assertEqual(self.told(("every", 0, 5), "all", 12), [("begun", 0, count) for count in range(3)])
        self.assertEqual(self.told(("once", 0), "all", 9999), [("begun", 0, 0)])

    def test_last(self):
        plan = ("every", 0, 5)
        self.assertEqual(self.told(plan, "last", 4), [("begun", 0, 0)])
        self.assertEqual(self.told(plan, "last", 5), [("left", 0, 0), ("begun", 0, 1)])
        self.assertEqual(self.told(plan, "last", 12), [("left", 0, 0), ("left", 0, 1), ("begun", 0, 2)])

    def test_last_of_a_plan_with_one_time(self):
        self.assertEqual(self.told(("once", 5), "last", 9999), [("begun", 0, 0)])

    def test_within(self):
        self.assertEqual(self.told(("once", 5), ("within", 3), 8), [("begun", 0, 0)])
        self.assertEqual(self.told(("once", 5), ("within", 3), 9), [("left", 0, 0)])
        self.assertEqual(self.told(("every", 0, 5), ("within", 7), 12),
                         [("left", 0, 0), ("begun", 0, 1), ("begun", 0, 2)])

    def test_within_no_hour_and_999(self):
        self.assertEqual(self.told(("once", 5), ("within", 0), 5), [("begun", 0, 0)])
        self.assertEqual(self.told(("once", 5), ("within", 0), 6), [("left", 0, 0)])
        self.assertEqual(self.told(("once", 0), ("within", 999), 999), [("begun", 0, 0)])
        self.assertEqual(self.told(("once", 0), ("within", 999), 1000), [("left", 0, 0)])

    def test_left_ones_are_told_one_by_one(self):
        hall = held_hall(PLAIN, ((("every", 0, 5), "last", True),), 12)
        self.assertEqual(hall.step(0, 12), ("left", 0, 0))
        self.assertEqual((hall.log(), hall.waiting()), ([(12, 0, "left", 0, 0)], [2]))
        self.assertEqual(hall.step(0, 12), ("left", 0, 1))
        self.assertEqual(hall.step(0, 12), ("begun", 0, 2))

    def test_times_at_one_moment(self):
        self.assertEqual(self.told(("daily", 0), "all", 12, LEAPING), [("begun", 0, 0), ("begun", 0, 1)])
        self.assertEqual(self.told(("daily", 0), "last", 12, LEAPING), [("left", 0, 0), ("begun", 0, 1)])
        self.assertEqual(self.told(("daily", 0), ("within", 0), 12, LEAPING), [("begun", 0, 0), ("begun", 0, 1)])
        self.assertEqual(self.told(("daily", 0), ("within", 0), 13, LEAPING), [("left", 0, 0), ("left", 0, 1)])

    def test_late_goes_by_the_moment_of_the_step(self):
        hall = held_hall(PLAIN, ((("every", 0, 5), "last", True),))
        self.assertEqual(hall.step(0, 4), ("begun", 0, 0))
        self.assertEqual(hall.finish(0, 30), ("done", 0, 0))
        self.assertEqual(hall.step(0, 30), ("left", 0, 1))


class WhichOne(unittest.TestCase):
    def test_of_several_at_one_moment_the_least_number(self):
        deeds = tuple((plan, "all", True) for plan in (("every", 5, 5), ("once", 5), ("daily", 5), ("every", 0, 5)))
        hall = held_hall(PLAIN, deeds)
        self.assertEqual(settle(hall, 0, 5), [("begun", 3, 0), ("begun", 0, 0), ("begun", 1, 0), ("begun", 2, 0),
                                              ("begun", 3, 1)])

    def test_a_greater_number_that_was_due_earlier(self):
        hall = held_hall(PLAIN, ((("once", 7), "all", True), (("once", 6), "all", True), (("once", 5), "all", True)))
        self.assertEqual(settle(hall, 0, 10), [("begun", 2, 0), ("begun", 1, 0), ("begun", 0, 0)])

    def test_earliest_due_among_first_times_also_where_it_is_left(self):
        hall = held_hall(PLAIN, ((("every", 3, 4), "all", True), (("every", 1, 4), "last", True)))
        self.assertEqual(settle(hall, 0, 10), [("left", 1, 0), ("begun", 0, 0), ("left", 1, 1), ("begun", 0, 1),
                                               ("begun", 1, 2)])

    def test_six_deeds(self):
        hall = held_hall(PLAIN, tuple((("once", moment), "all", True) for moment in (9, 8, 7, 7, 8, 9)))
        self.assertEqual([row[1] for row in settle(hall, 0, 9)], [2, 3, 1, 4, 0, 5])


class ByTheWall(unittest.TestCase):
    def test_hour_that_is_skipped(self):
        # Hour 5 of day 4 is skipped at 100.
        hall = held_hall(SHIFTED, ((("daily", 5), "all", True),), 90)
        self.assertEqual(settle(hall, 0, 90), [("begun", 0, count) for count in range(4)])
        self.assertEqual(hall.step(0, 99), ("idle", 100))
        self.assertEqual(hall.step(0, 100), ("begun", 0, 4))
        hall.finish(0, 100)
        self.assertEqual(hall.step(0, 100), ("idle", 123))

    def test_hour_that_comes_twice(self):
        # Hour 7 of day 8 is shown at 197 and at 200.
        hall = held_hall(SHIFTED, ((("daily", 7), "last", True),), 196)
        self.assertEqual(settle(hall, 0, 196)[-1], ("begun", 0, 7))
        self.assertEqual(hall.step(0, 196), ("idle", 197))
        self.assertEqual(hall.step(0, 197), ("begun", 0, 8))
        hall.finish(0, 197)
        self.assertEqual(hall.step(0, 200), ("idle", 224))


class SettledOnce(unittest.TestCase):
    def check_log(self, hall, deeds, holds):
        settled = [0] * len(deeds)
        begun = {}
        for place, row in enumerate(hall.log()):
            word, deed, count = row[2:]
            self.assertEqual(count, settled[deed])
            if word == "begun":
                begun.setdefault((deed, count), []).append(holds[place])
            else:
                settled[deed] += 1
                self.assertEqual(word != "left", (deed, count) in begun)
        for key, where in begun.items():
            self.assertEqual(len(where), len(set(where)))
            self.assertTrue(len(where) == 1 or deeds[key[0]][2])

    def test_in_many_halls(self):
        chance = random.Random(21)
        for _ in range(150):
            zone = random_zone(chance, 80)
            deeds = random_deeds(chance, 60)
            hall = Hall(zone, deeds)
            holds = []
            moment = 0
            for _ in range(120):
                moment += chance.choice((0, 0, 0, 1, 3))
                runner = chance.randint(0, 3)
                hall.take(runner, moment, chance.randint(1, 6))
                for _ in range(chance.randint(0, 4)):
                    try:
                        chance.choice((hall.step, hall.step, hall.finish))(runner, moment)
                    except (NotHolder, Nothing):
                        pass
                    holds += [hall.held()[2]] * (len(hall.log()) - len(holds))
            self.check_log(hall, deeds, holds)


if __name__ == "__main__":
    unittest.main()
