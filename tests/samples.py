"""What several tests draw on: zones, deeds, and things of many kinds that are none, nor plans, moments or counts."""

PLAIN = (0, ())
# Forward by 1 at 100, back by 3 at 200.
SHIFTED = (1, ((100, 2), (200, -1)))
SIX = (3, ((10, 4), (20, 3), (30, -12), (31, 14), (32, 14), (40, 0)))
# At 11 the wall shows hour 23 of day -1, at 12 hour 2 of day 1: two times of one plan come at 12.
LEAPING = (-12, ((12, 14),))

ONE = ((("every", 2, 5), "all", True),)
MIXED = ((("once", 5), "all", False), (("every", 3, 4), "last", True), (("daily", 7), ("within", 6), False))


def hours_shown(zone, moment):
    ahead = [zone[0]] + [more for start, more in zone[1] if start <= moment]
    return moment + ahead[-1]


def random_zone(chance, latest):
    starts = sorted(chance.sample(range(1, latest), chance.randint(0, 6)))
    return (chance.randint(-12, 14), tuple((start, chance.randint(-12, 14)) for start in starts))


def random_plan(chance, latest):
    return chance.choice((("once", chance.randint(0, latest)), ("daily", chance.randint(0, 23)),
                          ("every", chance.randint(0, latest), chance.randint(1, 30))))


def random_deeds(chance, latest):
    lates = ("all", "last", ("within", chance.choice((0, 1, 5, 20))))
    return tuple((random_plan(chance, latest), chance.choice(lates), chance.random() < 0.5)
                 for _ in range(chance.randint(0, 6)))


def walked_times(zone, plan, latest):
    """The moments of all times of a plan up to a latest moment, found by walking moment by moment."""
    if plan[0] == "once":
        return [plan[1]] if plan[1] <= latest else []
    if plan[0] == "every":
        return list(range(plan[1], latest + 1, plan[2]))
    goal = -1 * 24 + plan[1]
    while goal < hours_shown(zone, 0):
        goal += 24
    told = []
    for moment in range(latest + 1):
        while hours_shown(zone, moment) >= goal:
            told.append(moment)
            goal += 24
    return told


def walked_rows(zone, deeds, first, last):
    """The calendar, found by walking moment by moment."""
    rows = []
    for number, deed in enumerate(deeds):
        for count, moment in enumerate(walked_times(zone, deed[0], last)):
            if first <= moment:
                rows.append((moment, number, count))
    return sorted(rows)


def all_told(hall):
    """All that a hall tells without a call."""
    states = [hall.state(deed, count) for deed in range(len(hall.waiting())) for count in range(20)]
    return (hall.held(), hall.log(), hall.waiting(), states, hall.saved())


class Plain:
    pass


class Touchy:
    """Fails if it is compared: a refusal must not ask it what it equals."""

    def __eq__(self, other):
        raise AssertionError("compared")

    def __hash__(self):
        raise AssertionError("hashed")

    def __lt__(self, other):
        raise AssertionError("compared")

    __le__ = __gt__ = __ge__ = __lt__


def odd_things():
    return [None, True, False, "", "5", "once", b"5", [], [5], {}, {5: 5}, set(), frozenset(), (), (5,), (5, 5),
            Plain(), Touchy(), Plain, len, range(5), 3j]


def is_shift(thing):
    return isinstance(thing, tuple) and len(thing) == 2


def no_wholes(least, most):
    return odd_things() + [least - 1, most + 1, least - 10 ** 30, most + 10 ** 30]


def no_zones():
    shifts = ((5, 1), (6, 2))
    zones = odd_things() + [0, 10 ** 30]
    zones += [[0, ()], [0, []], (0,), (0, (), ()), (0, shifts, 0), "0(", (0, []), (0, list(shifts)), (0, None),
              (0, 0), (0, ""), (0, {}), ((), 0), (None, ()), ("0", ()), ([], ()), (Touchy(), ()), (0, Touchy())]
    zones += [(True, ()), (False, ()), (-13, ()), (15, ()), (10 ** 30, ())]
    zones += [(0, (thing,)) for thing in odd_things() if not is_shift(thing)]
    zones += [(0, ([5, 1],)), (0, ((5,),)), (0, ((5, 1, 1),)), (0, (5, 1)), (0, shifts + (None,)), (0, ("51",))]
    zones += [(0, ((thing, 1),)) for thing in no_wholes(1, 9999)]
    zones += [(0, ((5, thing),)) for thing in no_wholes(-12, 14)]
    zones += [(0, ((5, 1), (5, 2))), (0, ((5, 1), (4, 2))), (0, ((5, 1), (7, 2), (6, 3))),
              (0, ((5, 1), (9, 2), (9, 2))), (0, ((9999, 1), (10000, 2)))]
    zones += [(0, tuple((at, 1) for at in range(1, 8)))]
    return zones


def no_plans():
    plans = odd_things() + [0, 10 ** 30, "daily", ("once",), ("every",), ("daily",)]
    plans += [["once", 5], ["every", 5, 5], ["daily", 5], ("once", 5, 5), ("every", 5), ("every", 5, 5, 5),
              ("daily", 5, 5), ("Once", 5), ("never", 5), ("", 5), ("once ", 5), (b"once", 5), (("once",), 5),
              (["once"], 5), (Touchy(), 5), (Touchy(), 5, 5), (None, 5), (5, "once"), ({}, 5), (True, 5)]
    plans += [("once", thing) for thing in no_wholes(0, 9999)]
    plans += [("every", thing, 5) for thing in no_wholes(0, 9999)]
    plans += [("every", 5, thing) for thing in no_wholes(1, 999)]
    plans += [("daily", thing) for thing in no_wholes(0, 23)]
    return plans


def is_empty_tuple(thing):
    return isinstance(thing, tuple) and len(thing) == 0


def no_lates():
    lates = odd_things() + [0, 10 ** 30, "All", "all ", "first", "within", ("all",), ("last",), ["all"], b"all"]
    lates += [("within",), ("within", 5, 5), ["within", 5], ("Within", 5), (b"within", 5), (Touchy(), 5), (5, "within")]
    lates += [("within", thing) for thing in no_wholes(0, 999)]
    return lates


def no_deeds():
    good = (("once", 5), "all", True)
    deeds = [thing for thing in odd_things() if not is_empty_tuple(thing)] + [0, 10 ** 30]
    deeds += [[good], [], good, (good,) * 7, (list(good),), (good[:2],), (good + (1,),), (good, None), ((),)]
    deeds += [(good, thing) for thing in odd_things()]
    deeds += [((plan, "all", True),) for plan in no_plans()]
    deeds += [((("once", 5), late, True),) for late in no_lates()]
    deeds += [((("once", 5), "all", again),) for again in odd_things() if again is not True and again is not False]
    deeds += [((("once", 5), "all", again),) for again in (0, 1, 2, -1, "True")]
    deeds += [(good, good, (("once", 5), "all", 1)), (("all", ("once", 5), True),)]
    return deeds
