"""What several tests draw on: zones, and things of many kinds that are none, nor plans, moments or counts."""

PLAIN = (0, ())
# Forward by 1 at 100, back by 3 at 200.
SHIFTED = (1, ((100, 2), (200, -1)))
SIX = (3, ((10, 4), (20, 3), (30, -12), (31, 14), (32, 14), (40, 0)))


def hours_shown(zone, moment):
    ahead = [zone[0]] + [more for start, more in zone[1] if start <= moment]
    return moment + ahead[-1]


def random_zone(chance, latest):
    starts = sorted(chance.sample(range(1, latest), chance.randint(0, 6)))
    return (chance.randint(-12, 14), tuple((start, chance.randint(-12, 14)) for start in starts))


class Plain:
    pass


class Touchy:
    """Fails if it is compared: a refusal must not ask it what it equals."""

    def __eq__(self, other):
        raise AssertionError("compared")

    def __hash__(self):
        raise AssertionError("hashed")

    def __lt__(self, other):
        raise AssertionError("compared")

    __le__ = __gt__ = __ge__ = __lt__


def odd_things():
    return [None, True, False, "", "5", "once", b"5", [], [5], {}, {5: 5}, set(), frozenset(), (), (5,), (5, 5),
            Plain(), Touchy(), Plain, len, range(5), 3j]


def is_shift(thing):
    return isinstance(thing, tuple) and len(thing) == 2


def no_wholes(least, most):
    return odd_things() + [least - 1, most + 1, least - 10 ** 30, most + 10 ** 30]


def no_zones():
    shifts = ((5, 1), (6, 2))
    zones = odd_things() + [0, 10 ** 30]
    zones += [[0, ()], [0, []], (0,), (0, (), ()), (0, shifts, 0), "0(", (0, []), (0, list(shifts)), (0, None),
              (0, 0), (0, ""), (0, {}), ((), 0), (None, ()), ("0", ()), ([], ()), (Touchy(), ()), (0, Touchy())]
    zones += [(True, ()), (False, ()), (-13, ()), (15, ()), (10 ** 30, ())]
    zones += [(0, (thing,)) for thing in odd_things() if not is_shift(thing)]
    zones += [(0, ([5, 1],)), (0, ((5,),)), (0, ((5, 1, 1),)), (0, (5, 1)), (0, shifts + (None,)), (0, ("51",))]
    zones += [(0, ((thing, 1),)) for thing in no_wholes(1, 9999)]
    zones += [(0, ((5, thing),)) for thing in no_wholes(-12, 14)]
    zones += [(0, ((5, 1), (5, 2))), (0, ((5, 1), (4, 2))), (0, ((5, 1), (7, 2), (6, 3))),
              (0, ((5, 1), (9, 2), (9, 2))), (0, ((9999, 1), (10000, 2)))]
    zones += [(0, tuple((at, 1) for at in range(1, 8)))]
    return zones


def no_plans():
    plans = odd_things() + [0, 10 ** 30, "daily", ("once",), ("every",), ("daily",)]
    plans += [["once", 5], ["every", 5, 5], ["daily", 5], ("once", 5, 5), ("every", 5), ("every", 5, 5, 5),
              ("daily", 5, 5), ("Once", 5), ("never", 5), ("", 5), ("once ", 5), (b"once", 5), (("once",), 5),
              (["once"], 5), (Touchy(), 5), (Touchy(), 5, 5), (None, 5), (5, "once"), ({}, 5), (True, 5)]
    plans += [("once", thing) for thing in no_wholes(0, 9999)]
    plans += [("every", thing, 5) for thing in no_wholes(0, 9999)]
    plans += [("every", 5, thing) for thing in no_wholes(1, 999)]
    plans += [("daily", thing) for thing in no_wholes(0, 23)]
    return plans
