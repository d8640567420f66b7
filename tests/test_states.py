"""How each time stands, what waits, what happened, and halls that are saved and woken."""

import random
import unittest

from duehall.errors import NoCount, NoDeed, NotHolder, Nothing
from duehall.hall import Hall, woken
from samples import (LEAPING, MIXED, ONE, PLAIN, SHIFTED, all_told, no_wholes, random_deeds, random_zone,
                     walked_times)


class States(unittest.TestCase):
    def test_none_where_the_plan_has_not_so_many(self):
        hall = Hall(PLAIN, ((("once", 5), "all", True),))
        self.assertEqual([hall.state(0, count) for count in (0, 1, 2, 9999)], ["coming", "none", "none", "none"])
        hall.take(0, 9, 9)
        self.assertEqual([hall.state(0, count) for count in (0, 1, 9999)], ["due", "none", "none"])

    def test_coming_and_due(self):
        hall = Hall(PLAIN, ONE)
        hall.take(0, 6, 9)
        self.assertEqual([hall.state(0, count) for count in (0, 1)], ["due", "coming"])
        hall.take(0, 7, 9)
        self.assertEqual([hall.state(0, count) for count in (1, 2)], ["due", "coming"])

    def test_ahead_of_the_first_call_nothing_is_due(self):
        hall = Hall(PLAIN, ((("once", 0), "all", True), (("every", 0, 1), "all", True), (("daily", 0), "all", True)))
        self.assertEqual([hall.state(deed, 0) for deed in range(3)], ["coming"] * 3)
        self.assertEqual(hall.waiting(), [0, 0, 0])
        hall.take(0, 0, 1)
        self.assertEqual([hall.state(deed, 0) for deed in range(3)], ["due"] * 3)
        self.assertEqual([hall.state(deed, 1) for deed in range(3)], ["none", "coming", "coming"])
        self.assertEqual(hall.waiting(), [1, 1, 1])

    def test_due_by_a_take_that_does_not_get_the_hall(self):
        hall = Hall(PLAIN, ONE)
        hall.take(0, 0, 50)
        self.assertEqual((hall.state(0, 0), hall.waiting()), ("coming", [0]))
        self.assertIs(hall.take(1, 2, 50), False)
        self.assertEqual((hall.state(0, 0), hall.waiting()), ("due", [1]))

    def test_due_by_each_call_that_is_not_refused(self):
        deeds = ONE + ((("every", 0, 1), "all", True),)
        hall = Hall(PLAIN, deeds)
        hall.take(0, 0, 50)
        hall.step(0, 6)
        self.assertEqual((hall.state(0, 0), hall.state(0, 1), hall.waiting()), ("due", "coming", [1, 7]))
        hall.finish(0, 7)
        self.assertEqual((hall.state(0, 1), hall.state(0, 2), hall.waiting()), ("due", "coming", [2, 7]))
        hall.give(0, 12)
        self.assertEqual((hall.state(0, 2), hall.state(0, 3), hall.waiting()), ("due", "coming", [3, 12]))

    def test_a_refused_call_makes_nothing_due(self):
        hall = Hall(PLAIN, ONE)
        for call in (hall.step, hall.give, hall.finish):
            with self.assertRaises(NotHolder):
                call(0, 50)
        hall.take(0, 1, 90)
        with self.assertRaises(Nothing):
            hall.finish(0, 50)
        with self.assertRaises(ValueError):
            hall.take(0, 50, 0)
        self.assertEqual((hall.state(0, 0), hall.waiting()), ("coming", [0]))

    def test_begun_done_left_and_unsure(self):
        hall = Hall(PLAIN, ((("every", 0, 5), "last", False),))
        hall.take(0, 6, 9)
        hall.step(0, 6)
        self.assertEqual([hall.state(0, count) for count in (0, 1, 2)], ["left", "due", "coming"])
        hall.step(0, 6)
        self.assertEqual([hall.state(0, count) for count in (0, 1, 2)], ["left", "begun", "coming"])
        hall.give(0, 7)
        hall.take(1, 7, 50)
        self.assertEqual(hall.state(0, 1), "begun")
        hall.step(1, 7)
        self.assertEqual([hall.state(0, count) for count in (0, 1, 2)], ["left", "unsure", "coming"])
        hall.step(1, 10)
        hall.finish(1, 11)
        hall.step(1, 15)
        self.assertEqual([hall.state(0, count) for count in range(5)], ["left", "unsure", "done", "begun", "coming"])

    def test_begun_anew_is_begun(self):
        hall = Hall(PLAIN, ONE)
        hall.take(0, 2, 5)
        hall.step(0, 2)
        hall.take(1, 9, 5)
        hall.step(1, 9)
        self.assertEqual(hall.state(0, 0), "begun")
        hall.finish(1, 9)
        self.assertEqual(hall.state(0, 0), "done")

    def test_deeds_stand_for_themselves(self):
        hall = Hall(PLAIN, ONE * 3)
        hall.take(0, 8, 5)
        hall.step(0, 8)
        hall.finish(0, 8)
        hall.step(0, 8)
        self.assertEqual([hall.state(deed, 0) for deed in range(3)], ["done", "begun", "due"])
        self.assertEqual([hall.state(deed, 1) for deed in range(3)], ["due"] * 3)

    def test_greatest_count(self):
        hall = Hall(PLAIN, ((("every", 0, 1), "all", True), (("every", 1, 1), "all", True), (("daily", 3), "all", True)))
        hall.take(0, 9999, 1)
        self.assertEqual([hall.state(deed, 9999) for deed in range(3)], ["due", "coming", "coming"])
        self.assertEqual(hall.waiting(), [10000, 9999, 417])

    def test_by_the_wall(self):
        hall = Hall(LEAPING, ((("daily", 0), "all", True),))
        hall.take(0, 11, 9)
        self.assertEqual(([hall.state(0, count) for count in (0, 1, 2)], hall.waiting()), (["coming"] * 3, [0]))
        hall.take(0, 12, 9)
        self.assertEqual([hall.state(0, count) for count in (0, 1, 2)], ["due", "due", "coming"])
        self.assertEqual(hall.waiting(), [2])

    def test_no_deed(self):
        for many in (0, 1, 3):
            for deed in no_wholes(0, many - 1):
                with self.assertRaises(NoDeed):
                    Hall(PLAIN, ONE * many).state(deed, 0)
                with self.assertRaises(NoDeed):
                    Hall(PLAIN, ONE * many).state(deed, -1)

    def test_no_count(self):
        hall = Hall(PLAIN, MIXED)
        for count in no_wholes(0, 9999):
            for deed in range(3):
                with self.assertRaises(NoCount):
                    hall.state(deed, count)
        for deed in range(3):
            hall.state(deed, 0)
            hall.state(deed, 9999)


class Waiting(unittest.TestCase):
    def test_behind_each_kind_of_call(self):
        hall = Hall(PLAIN, ((("every", 0, 5), "last", True), (("once", 3), "all", True)))
        hall.take(0, 7, 20)
        self.assertEqual(hall.waiting(), [2, 1])
        hall.step(0, 7)
        self.assertEqual(hall.waiting(), [1, 1])
        self.assertEqual(hall.step(0, 7), ("begun", 1, 0))
        self.assertEqual(hall.waiting(), [1, 1])
        hall.finish(0, 7)
        self.assertEqual(hall.waiting(), [1, 0])
        hall.step(0, 7)
        hall.give(0, 10)
        self.assertEqual(hall.waiting(), [2, 0])
        hall.take(0, 10, 5)
        hall.step(0, 10)
        self.assertEqual(hall.waiting(), [2, 0])

    def test_unsure_ones_wait_no_more(self):
        hall = Hall(PLAIN, ((("every", 0, 5), "all", False),))
        hall.take(0, 7, 1)
        hall.step(0, 7)
        hall.take(0, 8, 5)
        hall.step(0, 8)
        self.assertEqual((hall.state(0, 0), hall.waiting()), ("unsure", [1]))

    def test_as_a_walk_finds_in_many_zones(self):
        chance = random.Random(22)
        for _ in range(300):
            zone = random_zone(chance, chance.choice((10, 40, 150)))
            deeds = random_deeds(chance, 120)
            hall = Hall(zone, deeds)
            for moment in sorted(chance.sample(range(200), 12)):
                hall.take(0, moment, 1)
                many = [len(walked_times(zone, deed[0], moment)) for deed in deeds]
                self.assertEqual(hall.waiting(), many, (zone, deeds, moment))


class Logs(unittest.TestCase):
    def test_behind_each_kind_of_call(self):
        hall = Hall(PLAIN, ((("every", 0, 5), "last", False), (("once", 9), "all", True)))
        rows = []
        hall.take(2, 6, 20)
        self.assertEqual(hall.log(), rows)
        hall.step(2, 6)
        rows.append((6, 2, "left", 0, 0))
        self.assertEqual(hall.log(), rows)
        hall.step(2, 7)
        rows.append((7, 2, "begun", 0, 1))
        self.assertEqual(hall.log(), rows)
        hall.step(2, 8)
        self.assertEqual(hall.log(), rows)
        hall.give(2, 9)
        hall.take(3, 9, 30)
        hall.take(1, 9, 30)
        self.assertEqual(hall.log(), rows)
        hall.step(3, 9)
        rows.append((9, 3, "unsure", 0, 1))
        self.assertEqual(hall.log(), rows)
        hall.step(3, 9)
        hall.finish(3, 14)
        rows += [(9, 3, "begun", 1, 0), (14, 3, "done", 1, 0)]
        self.assertEqual(hall.log(), rows)

    def test_told_is_a_list_of_tuples(self):
        hall = Hall(PLAIN, ONE)
        hall.take(0, 5, 5)
        hall.step(0, 5)
        self.assertIs(type(hall.log()), list)
        self.assertEqual([type(row) for row in hall.log()], [tuple])
        self.assertIs(type(hall.held()), tuple)
        self.assertIs(type(hall.waiting()), list)


class Saved(unittest.TestCase):
    def assert_plain(self, thing):
        if type(thing) is tuple:
            for part in thing:
                self.assert_plain(part)
        else:
            self.assertIn(type(thing), (int, str, bool, type(None)))

    def halls(self):
        """Halls at first, in mid hold, with something begun, done, given up, behind a fall, settled as unsure."""
        fresh, left, begun, done, given, fallen, unsure = [Hall(SHIFTED, MIXED) for _ in range(7)]
        for hall in (left, begun, done, given, fallen, unsure):
            hall.take(0, 30, 10)
            self.assertEqual(hall.step(0, 30), ("left", 1, 0))
        for hall in (begun, done, given, fallen, unsure):
            self.assertEqual(hall.step(0, 31), ("begun", 0, 0))
        done.finish(0, 32)
        given.give(0, 32)
        fallen.take(1, 40, 15)
        unsure.take(1, 40, 15)
        self.assertEqual(unsure.step(1, 40), ("unsure", 0, 0))
        return [fresh, left, begun, done, given, fallen, unsure, Hall(PLAIN, ())]

    def go_on(self, hall):
        told = []
        for runner, moment, term in ((0, 50, 9), (1, 55, 9), (1, 60, 9), (2, 70, 90)):
            told.append(hall.take(runner, moment, term))
            for call in (hall.finish, hall.step, hall.step, hall.finish, hall.step, hall.step):
                try:
                    told.append(call(runner, moment))
                except (NotHolder, Nothing) as refusal:
                    told.append(type(refusal).__name__)
        return told

    def test_is_a_tuple_of_plain_things(self):
        for hall in self.halls():
            self.assertIs(type(hall.saved()), tuple)
            self.assert_plain(hall.saved())

    def test_woken_it_is_as_it_was(self):
        for hall in self.halls():
            other = woken(hall.saved())
            self.assertIsInstance(other, Hall)
            self.assertEqual(all_told(other), all_told(hall))

    def test_both_go_on_alike(self):
        for hall in self.halls():
            other = woken(hall.saved())
            self.assertEqual(self.go_on(other), self.go_on(hall))
            self.assertEqual(all_told(other), all_told(hall))

    def test_what_the_woken_one_does_leaves_the_first_one(self):
        for hall in self.halls():
            saved = hall.saved()
            before = all_told(hall)
            self.go_on(woken(saved))
            self.assertEqual(all_told(hall), before)
            self.go_on(hall)
            self.assertEqual(all_told(woken(saved)), before)

    def test_begun_in_this_hold_is_so_when_woken(self):
        hall = Hall(PLAIN, ONE)
        hall.take(0, 5, 10)
        hall.step(0, 5)
        self.assertEqual(woken(hall.saved()).step(0, 6), ("busy", 0, 0))
        self.assertEqual(woken(hall.saved()).finish(0, 6), ("done", 0, 0))
        hall.give(0, 6)
        hall.take(0, 6, 10)
        with self.assertRaises(Nothing):
            woken(hall.saved()).finish(0, 6)
        self.assertEqual(woken(hall.saved()).step(0, 6), ("begun", 0, 0))

    def test_the_last_moment_is_kept(self):
        hall = Hall(PLAIN, ONE)
        hall.take(0, 5, 10)
        with self.assertRaises(ValueError):
            woken(hall.saved()).take(0, 4, 10)
        self.assertIs(woken(Hall(PLAIN, ONE).saved()).take(0, 0, 1), True)

    def test_saved_and_woken_again_and_again(self):
        for hall in self.halls():
            saved = hall.saved()
            for _ in range(3):
                self.assertEqual(woken(saved).saved(), hall.saved())
                saved = woken(saved).saved()


if __name__ == "__main__":
    unittest.main()
