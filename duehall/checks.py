"""What can be a zone, a moment, a plan, a count, deeds, a runner or a term, and the refusal of what can not."""

from duehall.errors import NoCount, NoDeeds, NoMoment, NoPlan, NoRunner, NoTerm, NoZone

LAST_MOMENT = 9999
LAST_COUNT = 9999
LAST_HOUR = 23
LEAST_AHEAD = -12
MOST_AHEAD = 14
MOST_SHIFTS = 6
MOST_STEP = 999
MOST_DEEDS = 6
MOST_WITHIN = 999
LAST_RUNNER = 3
MOST_TERM = 99


def is_whole(thing, least, most):
    # To Python True and False are whole numbers; here they are none.
    return isinstance(thing, int) and not isinstance(thing, bool) and least <= thing <= most


def is_tuple_of(thing, length):
    return isinstance(thing, tuple) and len(thing) == length


def is_ahead(thing):
    return is_whole(thing, LEAST_AHEAD, MOST_AHEAD)


def is_moment(thing):
    return is_whole(thing, 0, LAST_MOMENT)


def is_runner(thing):
    return is_whole(thing, 0, LAST_RUNNER)


def is_term(thing):
    return is_whole(thing, 1, MOST_TERM)


def are_shifts(thing):
    if not isinstance(thing, tuple) or len(thing) > MOST_SHIFTS:
        return False
    # Before moment 1 a shift would hide what the zone says of the wall at first.
    earliest = 1
    for shift in thing:
        if not is_tuple_of(shift, 2) or not is_ahead(shift[1]):
            return False
        if not is_whole(shift[0], earliest, LAST_MOMENT):
            return False
        earliest = shift[0] + 1
    return True


def is_zone(thing):
    return is_tuple_of(thing, 2) and is_ahead(thing[0]) and are_shifts(thing[1])


def has_word(thing, word, length):
    # The kind is asked first: a thing of another kind may compare in its own way.
    return is_tuple_of(thing, length) and isinstance(thing[0], str) and thing[0] == word


def is_plan(thing):
    if has_word(thing, "once", 2):
        return is_moment(thing[1])
    if has_word(thing, "every", 3):
        return is_moment(thing[1]) and is_whole(thing[2], 1, MOST_STEP)
    return has_word(thing, "daily", 2) and is_whole(thing[1], 0, LAST_HOUR)


def is_late(thing):
    if isinstance(thing, str):
        return thing == "all" or thing == "last"
    return has_word(thing, "within", 2) and is_whole(thing[1], 0, MOST_WITHIN)


def is_deed(thing):
    return is_tuple_of(thing, 3) and is_plan(thing[0]) and is_late(thing[1]) and isinstance(thing[2], bool)


def are_deeds(thing):
    if not isinstance(thing, tuple) or len(thing) > MOST_DEEDS:
        return False
    return all([is_deed(deed) for deed in thing])


def check_zone(thing):
    if not is_zone(thing):
        raise NoZone("this is no zone")


def check_plan(thing):
    if not is_plan(thing):
        raise NoPlan("this is no plan")


def check_moment(thing):
    if not is_moment(thing):
        raise NoMoment("this is no moment")


def check_count(thing):
    if not is_whole(thing, 0, LAST_COUNT):
        raise NoCount("this is no count of a time")


def check_stretch(first, last):
    check_moment(first)
    check_moment(last)
    if last < first:
        raise NoMoment("the last moment is less than the first one")


def check_deeds(thing):
    if not are_deeds(thing):
        raise NoDeeds("these are no deeds")


def check_runner(thing):
    if not is_runner(thing):
        raise NoRunner("this is no runner")


def check_term(thing):
    if not is_term(thing):
        raise NoTerm("this is no term")
