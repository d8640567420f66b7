"""What the document promises over the whole program, asked of each function of each module."""

import copy
import importlib
import inspect
import itertools
import random
import unittest

from duehall.calendars import busiest, calendar, idle_stretch, next_due
from duehall.errors import (DueError, NoCall, NoCount, NoDeed, NoDeeds, NoHolds, NoMoment, NoPlan, NoRunner, NoTerm,
                            NoText, NotHolder, NoWidth, NoZone)
from duehall.hall import Hall, woken
from duehall.holding import all_holds, held_by, holder_at, nobody
from duehall.meeting import count_at, gaps, how_many, meet
from duehall.plans import due, dues
from duehall.plantexts import plan_text, read_plan, read_zone, zone_text
from duehall.reports import begun_again, by_runner, lateness, long_done, tallies
from duehall.runs import catch_up, do, run
from duehall.showing import leaps, long_day, never_shown, shown_often
from duehall.zones import moments, wall
from samples import MIXED, SHIFTED, Touchy, all_told, random_deeds, random_plan, random_zone

INTERFACE = {
    "zones": {"wall": "zone moment", "moments": "zone day hour"},
    "plans": {"due": "zone plan count", "dues": "zone plan first last"},
    "hall": {"Hall": "zone deeds", "woken": "thing"},
    "runs": {"do": "hall call", "run": "zone deeds calls", "catch_up": "hall runner moment most"},
    "showing": {"never_shown": "zone first last", "shown_often": "zone first last", "leaps": "zone",
                "long_day": "zone day"},
    "calendars": {"calendar": "zone deeds first last", "idle_stretch": "zone deeds first last",
                  "busiest": "zone deeds first last wide", "next_due": "zone deeds moment"},
    "plantexts": {"zone_text": "zone", "plan_text": "plan", "read_zone": "text", "read_plan": "text"},
    "holding": {"all_holds": "rows", "held_by": "rows", "holder_at": "rows moment", "nobody": "rows last"},
    "meeting": {"how_many": "zone plan first last", "meet": "zone one other last", "gaps": "zone plan many",
                "count_at": "zone plan moment"},
    "reports": {"tallies": "hall", "lateness": "hall zone plan deed", "begun_again": "hall", "by_runner": "hall",
                "long_done": "hall"},
}
METHODS = {"take": "runner moment term", "give": "runner moment", "step": "runner moment", "finish": "runner moment",
           "state": "deed count", "held": "", "log": "", "waiting": "", "saved": ""}

EVERY = ("every", 10, 3)
CALLS = [("take", 0, 5, 10), ("step", 0, 6), ("finish", 0, 6), ("step", 0, 7), ("give", 0, 8)]
ROWS = [("take", 0, 5, 10), ("take", 1, 7, 5), ("give", 0, 9), ("take", 2, 20, 5)]


def used_hall():
    """A hall that runner 1 holds from 18 to 47, behind a fall, busy with a time that is not finished."""
    hall = Hall(SHIFTED, MIXED)
    hall.take(0, 12, 6)
    catch_up(hall, 0, 12, 4)
    hall.step(0, 13)
    hall.take(1, 18, 30)
    hall.step(1, 18)
    hall.finish(1, 20)
    hall.step(1, 21)
    hall.step(1, 21)
    return hall


def of_hall(tell):
    """A teller that asks a hall of its own each time, so that the same is asked of the same calls."""
    return lambda *args: tell(used_hall(), *args)


def cases():
    """For each function: its name, a teller, what is handed in, and what is told where that is refused."""
    span = (NoZone, NoMoment, NoMoment)
    deeds = (NoZone, NoDeeds, NoMoment, NoMoment)
    return [
        ("wall", wall, (SHIFTED, 5), (NoZone, NoMoment)),
        ("moments", moments, (SHIFTED, 8, 7), (NoZone, NoMoment, NoMoment)),
        ("due", due, (SHIFTED, EVERY, 4), (NoZone, NoPlan, NoCount)),
        ("dues", dues, (SHIFTED, ("daily", 7), 5, 300), (NoZone, NoPlan, NoMoment, NoMoment)),
        ("Hall", lambda zone, deeds: all_told(Hall(zone, deeds)), (SHIFTED, MIXED), (NoZone, NoDeeds)),
        ("woken", lambda saved: all_told(woken(saved)), (used_hall().saved(),), (None,)),
        ("take", of_hall(Hall.take), (2, 50, 7), (NoRunner, NoMoment, NoTerm)),
        ("give", of_hall(Hall.give), (1, 22), (NoRunner, NoMoment)),
        ("step", of_hall(Hall.step), (1, 22), (NoRunner, NoMoment)),
        ("finish", of_hall(Hall.finish), (1, 22), (NoRunner, NoMoment)),
        ("state", of_hall(Hall.state), (1, 2), (NoDeed, NoCount)),
        ("held", of_hall(Hall.held), (), ()),
        ("log", of_hall(Hall.log), (), ()),
        ("waiting", of_hall(Hall.waiting), (), ()),
        ("saved", of_hall(Hall.saved), (), ()),
        ("do", of_hall(do), (("step", 1, 22),), (NoCall,)),
        ("run", lambda *args: run(*args)[1], (SHIFTED, MIXED, CALLS), (NoZone, NoDeeds, NoCall)),
        ("catch_up", of_hall(catch_up), (1, 40, 50), (NoRunner, NoMoment, NoCount)),
        ("never_shown", never_shown, (SHIFTED, 5, 150), span),
        ("shown_often", shown_often, (SHIFTED, 5, 250), span),
        ("leaps", leaps, (SHIFTED,), (NoZone,)),
        ("long_day", long_day, (SHIFTED, 4), (NoZone, NoMoment)),
        ("calendar", calendar, (SHIFTED, MIXED, 5, 99), deeds),
        ("idle_stretch", idle_stretch, (SHIFTED, MIXED, 5, 99), deeds),
        ("busiest", busiest, (SHIFTED, MIXED, 5, 99, 7), deeds + (NoWidth,)),
        ("next_due", next_due, (SHIFTED, MIXED, 50), deeds[:3]),
        ("zone_text", zone_text, (SHIFTED,), (NoZone,)),
        ("plan_text", plan_text, (EVERY,), (NoPlan,)),
        ("read_zone", read_zone, ("+3 100-2 200+0",), (NoText,)),
        ("read_plan", read_plan, ("every 3 from 10",), (NoText,)),
        ("all_holds", all_holds, (ROWS,), (NoHolds,)),
        ("held_by", held_by, (ROWS,), (NoHolds,)),
        ("holder_at", holder_at, (ROWS, 7), (NoHolds, NoMoment)),
        ("nobody", nobody, (ROWS, 30), (NoHolds, NoMoment)),
        ("how_many", how_many, (SHIFTED, EVERY, 5, 99), (NoZone, NoPlan, NoMoment, NoMoment)),
        ("meet", meet, (SHIFTED, EVERY, ("daily", 7), 300), (NoZone, NoPlan, NoPlan, NoMoment)),
        ("gaps", gaps, (SHIFTED, ("daily", 7), 12), (NoZone, NoPlan, NoCount)),
        ("count_at", count_at, (SHIFTED, EVERY, 50), (NoZone, NoPlan, NoMoment)),
        ("tallies", of_hall(tallies), (), ()),
        ("lateness", of_hall(lateness), (SHIFTED, MIXED[1][0], 1), (NoZone, NoPlan, NoDeed)),
        ("begun_again", of_hall(begun_again), (), ()),
        ("by_runner", of_hall(by_runner), (), ()),
        ("long_done", of_hall(long_done), (), ()),
    ]


def first_named(name, refusals):
    """Of the refusals that fit, the one that the document names first."""
    # Of catching up NoCount is named ahead of what the hall refuses.
    ordered = sorted(refusals, key=lambda refusal: refusal is not NoCount) if name == "catch_up" else refusals
    return ordered[0]


def with_flags(thing):
    """All things that are as this one, but for True or False in the place of one whole number."""
    if type(thing) is int:
        return [True, False]
    found = []
    if isinstance(thing, (tuple, list)):
        for place, part in enumerate(thing):
            for changed in with_flags(part):
                found.append(thing[:place] + type(thing)([changed]) + thing[place + 1:])
    return found


def as_lists(thing):
    return [as_lists(part) for part in thing] if isinstance(thing, (tuple, list)) else thing


def lists_within(thing):
    found = [thing] if isinstance(thing, list) else []
    if isinstance(thing, (tuple, list)):
        for part in thing:
            found += lists_within(part)
    return found


def put(args, place, thing):
    return args[:place] + (thing,) + args[place + 1:]


class Interface(unittest.TestCase):
    def test_names_and_arguments(self):
        for file, names in INTERFACE.items():
            module = importlib.import_module("duehall." + file)
            for name, words in names.items():
                self.assertEqual(list(inspect.signature(getattr(module, name)).parameters), words.split(), name)
                self.assertEqual(getattr(module, name).__module__, "duehall." + file)

    def test_methods_and_their_arguments(self):
        for name, words in METHODS.items():
            self.assertEqual(list(inspect.signature(getattr(Hall, name)).parameters), ["self"] + words.split(), name)

    def test_arguments_by_their_names(self):
        for file, names in INTERFACE.items():
            module = importlib.import_module("duehall." + file)
            for name, words in names.items():
                if words.split()[0] not in ("hall", "thing"):
                    args = [case[2] for case in cases() if case[0] == name][0]
                    getattr(module, name)(**dict(zip(words.split(), args)))

    def test_each_has_a_case_here(self):
        names = [name for words in INTERFACE.values() for name in words] + list(METHODS)
        self.assertEqual(sorted(case[0] for case in cases()), sorted(names))


class AskedAgain(unittest.TestCase):
    def test_the_same_is_told(self):
        for name, tell, args, refusals in cases():
            told = tell(*args)
            self.assertEqual(tell(*args), told, name)
            self.assertEqual(tell(*copy.deepcopy(args)), told, name)
            self.assertIs(type(tell(*args)), type(told), name)

    def test_the_same_whatever_was_asked_between(self):
        first = [tell(*args) for name, tell, args, refusals in cases()]
        for name, tell, args, refusals in reversed(cases()):
            tell(*args)
        self.assertEqual([tell(*args) for name, tell, args, refusals in cases()], first)

    def test_one_hall_asked_again_tells_the_same(self):
        hall = used_hall()
        asks = (Hall.held, Hall.log, Hall.waiting, Hall.saved, tallies, begun_again, by_runner, long_done,
                lambda hall: lateness(hall, SHIFTED, MIXED[0][0], 0), lambda hall: hall.state(1, 2))
        first = [ask(hall) for ask in asks]
        self.assertEqual([ask(hall) for ask in asks], first)
        self.assertEqual([ask(hall) for ask in reversed(asks)], first[::-1])
        self.assertEqual(all_told(hall), all_told(used_hall()))

    def test_what_is_told_tells_something(self):
        # An empty list would hide that lists are kept.
        for name, tell, args, refusals in cases():
            told = tell(*args)
            self.assertNotIn(told, ([], ()), name)

    def test_told_lists_are_new_ones(self):
        for name, tell, args, refusals in cases():
            told = tell(*args)
            before = copy.deepcopy(told)
            for found in lists_within(told):
                found.clear()
            self.assertEqual(tell(*args), before, name)

    def test_told_lists_of_one_hall_are_new_ones(self):
        hall = used_hall()
        before = copy.deepcopy(all_told(hall))
        for ask in (Hall.log, Hall.waiting, tallies, begun_again, by_runner, long_done,
                    lambda hall: lateness(hall, SHIFTED, MIXED[0][0], 0)):
            told = ask(hall)
            kept = copy.deepcopy(told)
            told.append("more")
            self.assertEqual(ask(hall), kept)
        self.assertEqual(all_told(hall), before)


class HandedIn(unittest.TestCase):
    def test_is_as_it_was(self):
        for name, tell, args, refusals in cases():
            before = copy.deepcopy(args)
            tell(*args)
            self.assertEqual(args, before, name)

    def test_is_as_it_was_where_it_is_refused(self):
        for name, tell, args, refusals in cases():
            for place, refusal in enumerate(refusals):
                wrong = put(args, place, as_lists(args[place]) if isinstance(args[place], (tuple, list)) else [[5]])
                before = copy.deepcopy(wrong)
                if refusal is not None:
                    with self.assertRaises(refusal, msg=name):
                        tell(*wrong)
                    self.assertEqual(wrong, before, name)

    def test_lists_are_not_kept(self):
        calls = list(CALLS)
        hall, told = run(SHIFTED, MIXED, calls)
        before = copy.deepcopy((all_told(hall), told))
        calls.clear()
        self.assertEqual((all_told(hall), told), before)
        for tell, args in ((all_holds, ()), (held_by, ()), (nobody, (30,))):
            rows = list(ROWS)
            told = tell(rows, *args)
            before = list(told)
            rows.clear()
            self.assertEqual(told, before)


class Refused(unittest.TestCase):
    def test_each_by_itself(self):
        for name, tell, args, refusals in cases():
            for place, refusal in enumerate(refusals):
                for wrong in (None, Touchy(), object(), {}, b"", -99999) if refusal is not None else ():
                    with self.assertRaises(DueError, msg=name) as caught:
                        tell(*put(args, place, wrong))
                    self.assertIs(type(caught.exception), refusal, name)

    def test_of_several_it_is_the_one_that_is_named_first(self):
        for name, tell, args, refusals in cases():
            if None in refusals:
                continue
            for many in range(2, len(args) + 1):
                for places in itertools.combinations(range(len(args)), many):
                    wrong = args
                    for place in places:
                        wrong = put(wrong, place, None)
                    with self.assertRaises(DueError, msg=name) as caught:
                        tell(*wrong)
                    self.assertIs(type(caught.exception), first_named(name, [refusals[place] for place in places]))

    def test_true_and_false_are_no_whole_numbers(self):
        for name, tell, args, refusals in cases():
            # What calls hold is not refused by an error, but told as refused: asked below.
            for place, refusal in enumerate(refusals):
                if refusal in (None, NoCall):
                    continue
                for wrong in with_flags(args[place]):
                    with self.assertRaises(DueError, msg=(name, wrong)) as caught:
                        tell(*put(args, place, wrong))
                    self.assertIs(type(caught.exception), refusal, (name, wrong))

    def test_true_and_false_in_calls(self):
        calls = [("take", 1, 22, 1), ("give", 1, 22), ("step", 1, 22), ("finish", 1, 22)]
        for call in calls:
            self.assertNotEqual(do(used_hall(), call), "refused")
            for wrong in with_flags(call):
                hall = used_hall()
                self.assertEqual(do(hall, wrong), "refused")
                self.assertEqual(all_told(hall), all_told(used_hall()))
        for wrong in with_flags([("take", 1, 1, 1)]):
            hall, told = run(SHIFTED, MIXED, wrong)
            self.assertEqual((told, all_told(hall)), (["refused"], all_told(Hall(SHIFTED, MIXED))))

    def test_what_is_told_has_no_true_or_false_for_a_number(self):
        for name, tell, args, refusals in cases():
            told = tell(*args)
            if name not in ("take", "run", "Hall", "woken", "saved"):
                self.assertNotIn("True", repr(told))
                self.assertNotIn("False", repr(told))

    def test_a_hall_is_as_it_was(self):
        asks = ((NoRunner, Hall.take, (9, 50, 5)), (NoMoment, Hall.take, (1, 20, 5)), (NoTerm, Hall.take, (1, 50, 0)),
                (NotHolder, Hall.give, (0, 22)), (NotHolder, Hall.step, (0, 22)), (NotHolder, Hall.finish, (1, 48)),
                (NoDeed, Hall.state, (3, 0)), (NoCount, Hall.state, (0, -1)), (NoCall, do, (("take", 1, 22),)),
                (NoCount, catch_up, (1, 22, 1000)), (NotHolder, catch_up, (0, 22, 5)),
                (NoZone, lateness, (None, EVERY, 0)), (NoPlan, lateness, (SHIFTED, None, 0)),
                (NoDeed, lateness, (SHIFTED, EVERY, 3)))
        hall = used_hall()
        before = all_told(hall)
        for refusal, ask, args in asks:
            with self.assertRaises(refusal):
                ask(hall, *args)
            self.assertEqual(all_told(hall), before)


class CaughtUp(unittest.TestCase):
    def catch_up(self, hall, runner, moment):
        told = catch_up(hall, runner, moment, 999)
        while told[-1][0] != "idle":
            told += catch_up(hall, runner, moment, 999)
        return told

    def check(self, hall, zone, deeds, moment, idle):
        rows = calendar(zone, deeds, 0, moment)
        done = [row[3:] for row in hall.log() if row[2] == "done"]
        self.assertEqual(done, [row[1:] for row in rows], (zone, deeds, moment))
        self.assertEqual([row[3:] for row in hall.log() if row[2] == "begun"], done)
        self.assertEqual(hall.waiting(), [0] * len(deeds))
        self.assertEqual(tallies(hall), [(many, many, 0, 0) for many in self.many(rows, deeds)])
        self.assertEqual([how_many(zone, deed[0], 0, moment) for deed in deeds], self.many(rows, deeds))
        later = next_due(zone, deeds, moment + 1)
        self.assertEqual(idle, ("idle", None if later is None else later[0]))
        for deed, (plan, late, again) in enumerate(deeds):
            self.assertEqual(count_at(zone, plan, moment), self.many(rows, deeds)[deed] - 1
                             if self.many(rows, deeds)[deed] else None)

    def many(self, rows, deeds):
        return [sum(row[1] == deed for row in rows) for deed in range(len(deeds))]

    def test_at_one_moment(self):
        chance = random.Random(91)
        for _ in range(150):
            zone = random_zone(chance, 150)
            deeds = tuple((plan, chance.choice(("all", ("within", 999))), again)
                          for plan, late, again in random_deeds(chance, 150))
            moment = chance.choice((0, 1, 23, 24, 100, chance.randint(0, 300)))
            runner = chance.randint(0, 3)
            hall = Hall(zone, deeds)
            hall.take(runner, moment, 99)
            told = self.catch_up(hall, runner, moment)
            self.check(hall, zone, deeds, moment, told[-1])
            self.assertEqual(by_runner(hall), [(runner, len(hall.log()) // 2)] if hall.log() else [])
            self.assertEqual(begun_again(hall), [])
            self.assertEqual(long_done(hall), sorted((deed, count, 0) for at, deed, count in
                                                     calendar(zone, deeds, 0, moment)))
            for deed in range(len(deeds)):
                self.assertEqual(lateness(hall, zone, deeds[deed][0], deed),
                                 [moment - at for count, at in dues(zone, deeds[deed][0], 0, moment)])

    def test_at_several_moments(self):
        chance = random.Random(92)
        for _ in range(60):
            zone = random_zone(chance, 150)
            deeds = tuple((random_plan(chance, 150), "all", True) for _ in range(chance.randint(0, 6)))
            hall = Hall(zone, deeds)
            moment = 0
            for _ in range(5):
                moment += chance.randint(0, 60)
                hall.take(1, moment, 99)
                self.check(hall, zone, deeds, moment, self.catch_up(hall, 1, moment)[-1])

    def test_late_in_time(self):
        deeds = ((("every", 0, 7), "all", False), (("daily", 5), "all", True), (("once", 9998), "all", True))
        hall = Hall(SHIFTED, deeds)
        hall.take(2, 9998, 99)
        told = self.catch_up(hall, 2, 9998)
        self.check(hall, SHIFTED, deeds, 9998, told[-1])
        self.assertEqual(tallies(hall)[0], (1429, 1429, 0, 0))


if __name__ == "__main__":
    unittest.main()
