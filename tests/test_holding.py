import copy
import random
import unittest

from duehall.errors import NoHolds, NoMoment
from duehall.hall import Hall
from duehall.holding import all_holds, held_by, holder_at, nobody
from duehall.runs import run
from samples import PLAIN, Touchy, no_wholes, odd_things

# Runner 0 from 5 to 11, held longer at 8; runner 1 twice, the second time given up; runner 0 to the last term.
SEVERAL = [("take", 0, 5, 5), ("take", 1, 6, 5), ("take", 0, 8, 4), ("take", 1, 12, 3), ("take", 1, 15, 9),
           ("give", 1, 20), ("give", 0, 20), ("take", 0, 25, 2)]


def takes_and_gives(chance, many, latest):
    rows = []
    moment = 0
    for _ in range(many):
        moment = min(latest, moment + chance.choice((0, 0, 1, 2, 5, 15)))
        runner = chance.randint(0, 3)
        if chance.random() < 0.6:
            rows.append(("take", runner, moment, chance.choice((1, 2, 3, 10))))
        else:
            rows.append(("give", runner, moment))
    return rows


def model(rows):
    """All holds, those of no moment too, as lists [runner, first moment, moment behind the last one]."""
    holds = []
    for row in rows:
        open_hold = bool(holds) and row[2] < holds[-1][2]
        own = open_hold and holds[-1][0] == row[1]
        if row[0] == "give" and own:
            holds[-1][2] = row[2]
        if row[0] == "take" and own:
            holds[-1][2] = row[2] + row[3]
        if row[0] == "take" and not open_hold:
            holds.append([row[1], row[2], row[2] + row[3]])
    return holds


def no_rows():
    """Each is no take and no give."""
    rows = odd_things() + [0, 10 ** 30, "take", "give"]
    rows += [("step", 0, 5), ("finish", 0, 5), ("held", 0, 5), ("Take", 0, 5, 5), ("", 0, 5), (b"give", 0, 5)]
    rows += [("take",), ("take", 0), ("take", 0, 5), ("take", 0, 5, 5, 5), ("give",), ("give", 0), ("give", 0, 5, 5)]
    rows += [["take", 0, 5, 5], ["give", 0, 5], (Touchy(), 0, 5), (Touchy(), 0, 5, 5), (("take",), 0, 5, 5)]
    rows += [("take", thing, 5, 5) for thing in no_wholes(0, 3)] + [("give", thing, 5) for thing in no_wholes(0, 3)]
    rows += [("take", 0, thing, 5) for thing in no_wholes(0, 9999)]
    rows += [("give", 0, thing) for thing in no_wholes(0, 9999)]
    rows += [("take", 0, 5, thing) for thing in no_wholes(1, 99)]
    return rows


def no_lists():
    things = [thing for thing in odd_things() if not isinstance(thing, list)]
    return things + [0, 10 ** 30, tuple(SEVERAL), SEVERAL[0], {0: SEVERAL[0]}, iter(SEVERAL), "take", Touchy()]


class AllHolds(unittest.TestCase):
    def test_none_at_all(self):
        self.assertEqual(all_holds([]), [])

    def test_taken_while_nobody_holds_it(self):
        self.assertEqual(all_holds([("take", 2, 5, 3)]), [(2, 5, 8)])
        self.assertEqual(all_holds([("take", 0, 0, 1)]), [(0, 0, 1)])
        self.assertEqual(all_holds([("take", 3, 9999, 99)]), [(3, 9999, 10098)])
        self.assertEqual(all_holds([("take", 2, 5, 3), ("take", 1, 10, 3)]), [(2, 5, 8), (1, 10, 13)])

    def test_taken_while_another_one_holds_it(self):
        self.assertEqual(all_holds([("take", 2, 5, 3), ("take", 1, 5, 50), ("take", 0, 7, 50)]), [(2, 5, 8)])

    def test_held_longer(self):
        self.assertEqual(all_holds([("take", 2, 5, 3), ("take", 2, 7, 3)]), [(2, 5, 10)])
        self.assertEqual(all_holds([("take", 2, 5, 3), ("take", 2, 5, 9), ("take", 2, 13, 9)]), [(2, 5, 22)])

    def test_held_for_a_shorter_term_than_was_left(self):
        self.assertEqual(all_holds([("take", 2, 5, 50), ("take", 2, 7, 1)]), [(2, 5, 8)])
        self.assertEqual(all_holds([("take", 2, 5, 50), ("take", 2, 7, 1), ("take", 1, 8, 2)]), [(2, 5, 8), (1, 8, 10)])
        self.assertEqual(all_holds([("take", 2, 5, 50), ("take", 2, 5, 1)]), [(2, 5, 6)])

    def test_a_term_that_is_over_at_the_next_take(self):
        self.assertEqual(all_holds([("take", 2, 5, 3), ("take", 1, 8, 3)]), [(2, 5, 8), (1, 8, 11)])
        self.assertEqual(all_holds([("take", 2, 5, 3), ("take", 1, 7, 3)]), [(2, 5, 8)])

    def test_two_holds_of_one_runner_one_behind_the_other(self):
        self.assertEqual(all_holds([("take", 2, 5, 3), ("take", 2, 8, 3)]), [(2, 5, 8), (2, 8, 11)])
        self.assertEqual(all_holds([("take", 2, 5, 3), ("give", 2, 6), ("take", 2, 6, 3)]), [(2, 5, 6), (2, 6, 9)])
        self.assertEqual(all_holds([("take", 2, 5, 3), ("take", 2, 30, 3)]), [(2, 5, 8), (2, 30, 33)])

    def test_given_up(self):
        self.assertEqual(all_holds([("take", 2, 5, 30), ("give", 2, 9)]), [(2, 5, 9)])
        self.assertEqual(all_holds([("take", 2, 5, 30), ("give", 2, 9), ("take", 1, 9, 2)]), [(2, 5, 9), (1, 9, 11)])
        self.assertEqual(all_holds([("take", 2, 5, 5), ("take", 2, 6, 30), ("give", 2, 12)]), [(2, 5, 12)])

    def test_given_up_at_once_is_not_told(self):
        self.assertEqual(all_holds([("take", 2, 5, 30), ("give", 2, 5)]), [])
        self.assertEqual(all_holds([("take", 2, 5, 30), ("take", 2, 5, 9), ("give", 2, 5)]), [])
        self.assertEqual(all_holds([("take", 2, 5, 30), ("give", 2, 5), ("take", 1, 5, 4), ("give", 1, 5),
                                    ("take", 2, 5, 2)]), [(2, 5, 7)])
        self.assertEqual(all_holds([("take", 2, 0, 30), ("give", 2, 0)]), [])

    def test_a_give_that_is_refused(self):
        hold = [(2, 5, 8)]
        self.assertEqual(all_holds([("give", 2, 5)]), [])
        self.assertEqual(all_holds([("give", 2, 3), ("take", 2, 5, 3), ("give", 1, 6)]), hold)
        self.assertEqual(all_holds([("take", 2, 5, 3), ("give", 2, 8)]), hold)
        self.assertEqual(all_holds([("take", 2, 5, 3), ("give", 2, 20)]), hold)
        self.assertEqual(all_holds([("take", 2, 5, 3), ("give", 2, 7), ("give", 2, 7)]), [(2, 5, 7)])
        self.assertEqual(all_holds([("take", 2, 5, 30), ("give", 2, 7), ("give", 2, 9)]), [(2, 5, 7)])

    def test_a_give_that_is_refused_keeps_the_hall_held(self):
        self.assertEqual(all_holds([("take", 2, 5, 3), ("give", 1, 6), ("take", 1, 6, 9)]), [(2, 5, 8)])

    def test_several(self):
        self.assertEqual(all_holds(SEVERAL), [(0, 5, 12), (1, 12, 15), (1, 15, 20), (0, 25, 27)])


class HeldBy(unittest.TestCase):
    def test_none_at_all(self):
        self.assertEqual(held_by([]), [])
        self.assertEqual(held_by([("give", 2, 5)]), [])

    def test_several_holds_of_one_runner(self):
        self.assertEqual(held_by(SEVERAL), [(0, 9), (1, 8)])
        self.assertEqual(held_by([("take", 3, 0, 5), ("take", 3, 5, 4), ("take", 3, 100, 99)]), [(3, 108)])

    def test_runners_rise(self):
        self.assertEqual(held_by([("take", 3, 0, 2), ("take", 1, 2, 50), ("take", 0, 60, 1), ("take", 2, 70, 4)]),
                         [(0, 1), (1, 50), (2, 4), (3, 2)])

    def test_no_moment_is_no_hold(self):
        self.assertEqual(held_by([("take", 3, 5, 2), ("give", 3, 5)]), [])
        self.assertEqual(held_by([("take", 3, 5, 2), ("give", 3, 5), ("take", 1, 5, 2)]), [(1, 2)])

    def test_who_did_not_get_it_is_not_told(self):
        self.assertEqual(held_by([("take", 3, 5, 2), ("take", 1, 6, 2)]), [(3, 2)])

    def test_behind_the_last_moment(self):
        self.assertEqual(held_by([("take", 0, 9999, 99)]), [(0, 99)])


class HolderAt(unittest.TestCase):
    def test_edges_of_a_hold(self):
        rows = [("take", 2, 5, 3)]
        self.assertEqual([holder_at(rows, moment) for moment in (0, 4, 5, 6, 7, 8, 9, 9999)],
                         [None, None, 2, 2, 2, None, None, None])

    def test_given_up(self):
        rows = [("take", 2, 5, 30), ("give", 2, 7)]
        self.assertEqual([holder_at(rows, moment) for moment in (5, 6, 7, 8)], [2, 2, None, None])
        self.assertIsNone(holder_at([("take", 2, 5, 30), ("give", 2, 5)], 5))

    def test_runner_0_is_told(self):
        told = holder_at([("take", 0, 0, 1)], 0)
        self.assertEqual((told, type(told)), (0, int))

    def test_none_at_all(self):
        for moment in (0, 5, 9999):
            self.assertIsNone(holder_at([], moment))

    def test_the_last_moment(self):
        self.assertEqual(holder_at([("take", 1, 9990, 99)], 9999), 1)

    def test_several(self):
        told = {moment: holder_at(SEVERAL, moment) for moment in (4, 5, 11, 12, 14, 15, 19, 20, 24, 25, 26, 27)}
        self.assertEqual(told, {4: None, 5: 0, 11: 0, 12: 1, 14: 1, 15: 1, 19: 1, 20: None, 24: None, 25: 0, 26: 0,
                                27: None})

    def test_given_up_and_taken_at_one_moment(self):
        self.assertEqual(holder_at([("take", 2, 5, 9), ("give", 2, 5), ("take", 1, 5, 9)], 5), 1)
        self.assertEqual(holder_at([("take", 2, 5, 9), ("give", 2, 7), ("take", 1, 7, 9)], 7), 1)


class Nobody(unittest.TestCase):
    def test_nobody_ever_holds_it(self):
        self.assertEqual(nobody([], 9999), [(0, 9999)])
        self.assertEqual(nobody([("give", 0, 5)], 20), [(0, 20)])
        self.assertEqual(nobody([("take", 0, 5, 9), ("give", 0, 5)], 20), [(0, 20)])

    def test_of_one_moment(self):
        self.assertEqual(nobody([], 0), [(0, 0)])
        self.assertEqual(nobody([("take", 0, 0, 1)], 0), [])
        self.assertEqual(nobody([("take", 0, 0, 1)], 1), [(1, 1)])
        self.assertEqual(nobody([("take", 0, 1, 1)], 0), [(0, 0)])
        self.assertEqual(nobody([("take", 0, 0, 5), ("take", 1, 6, 5)], 10), [(5, 5)])

    def test_somebody_always_holds_it(self):
        self.assertEqual(nobody([("take", 0, 0, 50)], 49), [])
        self.assertEqual(nobody([("take", 0, 0, 50), ("take", 1, 50, 50)], 99), [])
        self.assertEqual(nobody([("take", 0, 0, 50), ("take", 1, 50, 50)], 100), [(100, 100)])

    def test_a_last_moment_in_mid_hold(self):
        rows = [("take", 0, 10, 5), ("take", 1, 20, 5)]
        self.assertEqual(nobody(rows, 22), [(0, 9), (15, 19)])
        self.assertEqual(nobody(rows, 20), [(0, 9), (15, 19)])
        self.assertEqual(nobody(rows, 19), [(0, 9), (15, 19)])
        self.assertEqual(nobody(rows, 24), [(0, 9), (15, 19)])
        self.assertEqual(nobody(rows, 25), [(0, 9), (15, 19), (25, 25)])

    def test_holds_behind_the_last_moment(self):
        rows = [("take", 0, 10, 5), ("take", 1, 20, 5), ("take", 2, 40, 5)]
        self.assertEqual(nobody(rows, 5), [(0, 5)])
        self.assertEqual(nobody(rows, 12), [(0, 9)])
        self.assertEqual(nobody(rows, 17), [(0, 9), (15, 17)])
        self.assertEqual(nobody(rows, 9999), [(0, 9), (15, 19), (25, 39), (45, 9999)])

    def test_as_long_as_can_be(self):
        self.assertEqual(nobody([("take", 0, 5, 9), ("give", 0, 5), ("give", 1, 7), ("take", 2, 10, 1)], 20),
                         [(0, 9), (11, 20)])

    def test_given_up_to_another_one_at_once(self):
        self.assertEqual(nobody([("take", 0, 0, 9), ("give", 0, 5), ("take", 1, 5, 5)], 12), [(10, 12)])

    def test_up_to_the_last_moment_there_is(self):
        self.assertEqual(nobody([("take", 0, 9999, 99)], 9999), [(0, 9998)])
        self.assertEqual(nobody([("take", 0, 9950, 49)], 9999), [(0, 9949), (9999, 9999)])

    def test_several(self):
        self.assertEqual(nobody(SEVERAL, 30), [(0, 4), (20, 24), (27, 30)])


class Refused(unittest.TestCase):
    def tellers(self):
        return (all_holds, held_by, lambda rows: holder_at(rows, 5), lambda rows: nobody(rows, 5))

    def refuse(self, rows):
        for tell in self.tellers():
            with self.assertRaises(NoHolds):
                tell(rows)

    def test_no_list(self):
        for rows in no_lists():
            self.refuse(rows)

    def test_no_takes_and_gives(self):
        for row in no_rows():
            for rows in ([row], SEVERAL + [row], [row] + SEVERAL, [row, row]):
                self.refuse(rows)

    def test_moments_that_fall(self):
        self.refuse([("take", 0, 5, 5), ("take", 0, 4, 5)])
        self.refuse([("take", 0, 5, 5), ("give", 0, 4)])
        self.refuse([("take", 0, 5, 5), ("take", 0, 9, 5), ("give", 0, 8)])
        self.refuse(SEVERAL + [("take", 0, 24, 5)])
        self.refuse([("take", 0, 1, 5), ("take", 0, 0, 5)])

    def test_moments_that_fall_behind_what_is_refused_or_not_got(self):
        self.refuse([("take", 0, 5, 50), ("give", 1, 9), ("give", 0, 8)])
        self.refuse([("take", 0, 5, 50), ("take", 1, 9, 5), ("give", 0, 8)])
        self.refuse([("give", 1, 9), ("take", 0, 8, 5)])

    def test_moments_that_stay(self):
        self.assertEqual(all_holds([("take", 0, 5, 5), ("take", 1, 5, 5), ("give", 1, 5), ("take", 0, 5, 6)]),
                         [(0, 5, 11)])

    def test_no_moment(self):
        for moment in no_wholes(0, 9999):
            for rows in ([], SEVERAL):
                with self.assertRaises(NoMoment):
                    holder_at(rows, moment)
                with self.assertRaises(NoMoment):
                    nobody(rows, moment)

    def test_no_holds_ahead_of_no_moment(self):
        for moment in no_wholes(0, 9999):
            for rows in (None, (), [None], [("step", 0, 5)], [("take", 0, 5, 5), ("take", 0, 4, 5)]):
                with self.assertRaises(NoHolds):
                    holder_at(rows, moment)
                with self.assertRaises(NoHolds):
                    nobody(rows, moment)

    def test_the_edges_of_what_can_be(self):
        rows = [("take", 0, 0, 1), ("take", 3, 9999, 99)]
        self.assertEqual(all_holds(rows), [(0, 0, 1), (3, 9999, 10098)])
        self.assertEqual(all_holds([("take", 3, 0, 99), ("give", 3, 9)]), [(3, 0, 9)])


class AgainstAModel(unittest.TestCase):
    def test_random_takes_and_gives(self):
        chance = random.Random(61)
        for _ in range(400):
            rows = takes_and_gives(chance, chance.randint(0, 40), 120)
            holds = model(rows)
            lasting = [tuple(hold) for hold in holds if hold[1] < hold[2]]
            self.assertEqual(all_holds(rows), lasting, rows)
            holders = [holder_at(rows, moment) for moment in range(140)]
            self.assertEqual(holders, [self.holder(lasting, moment) for moment in range(140)], rows)
            self.check_held_by(rows, holders)
            self.check_nobody(rows, holders, chance.randint(0, 139))

    def holder(self, holds, moment):
        found = [hold[0] for hold in holds if hold[1] <= moment < hold[2]]
        self.assertLessEqual(len(found), 1)
        return found[0] if found else None

    def check_held_by(self, rows, holders):
        self.assertEqual(held_by(rows), [(runner, holders.count(runner)) for runner in range(4) if runner in holders])

    def check_nobody(self, rows, holders, last):
        free = [moment for moment in range(last + 1) if holders[moment] is None]
        firsts = [moment for moment in free if moment - 1 not in free]
        lasts = [moment for moment in free if moment + 1 not in free]
        self.assertEqual(nobody(rows, last), list(zip(firsts, lasts)), (rows, last))

    def test_a_hall_has_the_same_last_hold_and_as_many(self):
        chance = random.Random(62)
        for _ in range(300):
            rows = takes_and_gives(chance, chance.randint(0, 30), 200)
            hall, told = run(PLAIN, ((("every", 3, 4), "all", True),), rows)
            holder, until, many = hall.held()
            holds = model(rows)
            self.assertEqual(many, len(holds))
            lasting = all_holds(rows)
            self.assertEqual(len(lasting), many - sum(hold[1] == hold[2] for hold in holds))
            if holder is not None:
                self.assertEqual((lasting[-1][0], lasting[-1][2]), (holder, until))
            elif holds:
                self.assertLess(holds[-1][2], until)
            else:
                self.assertEqual((until, lasting), (0, []))

    def test_a_hall_counts_holds_of_no_moment(self):
        rows = [("take", 2, 5, 30), ("give", 2, 5), ("take", 1, 5, 4)]
        hall = Hall(PLAIN, ())
        for row in rows:
            if row[0] == "take":
                hall.take(row[1], row[2], row[3])
            else:
                hall.give(row[1], row[2])
        self.assertEqual(hall.held(), (1, 9, 2))
        self.assertEqual(all_holds(rows), [(1, 5, 9)])


class HandedIn(unittest.TestCase):
    def test_is_as_it_was(self):
        rows = copy.deepcopy(SEVERAL)
        all_holds(rows)
        held_by(rows)
        holder_at(rows, 5)
        nobody(rows, 5)
        self.assertEqual(rows, SEVERAL)
        wrong = SEVERAL + [["take", 0, 5, 5]]
        before = copy.deepcopy(wrong)
        for tell in (all_holds, held_by, lambda things: holder_at(things, 5), lambda things: nobody(things, 5)):
            with self.assertRaises(NoHolds):
                tell(wrong)
        self.assertEqual(wrong, before)

    def test_is_not_kept(self):
        rows = list(SEVERAL)
        told = all_holds(rows)
        before = list(told)
        rows.clear()
        self.assertEqual(told, before)
        self.assertEqual(all_holds(rows), [])

    def test_told_lists_are_new_ones(self):
        for rows in ([], SEVERAL):
            for tell in (all_holds, held_by, lambda rows: nobody(rows, 30)):
                told = tell(rows)
                self.assertIs(type(told), list)
                before = list(told)
                told.append("more")
                self.assertEqual(tell(rows), before)

    def test_told_are_tuples(self):
        for told in (all_holds(SEVERAL), held_by(SEVERAL), nobody(SEVERAL, 30)):
            self.assertEqual({type(row) for row in told}, {tuple})


if __name__ == "__main__":
    unittest.main()
