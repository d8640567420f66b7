"""Who held a hall, told by takes and gives alone."""

from duehall.checks import check_moment, has_word, is_moment, is_runner, is_term
from duehall.errors import NoHolds
from duehall.hall import Hall
from duehall.runs import do

# Who holds a hall hangs on neither its zone nor its deeds, so that any will do.
ANY_ZONE = (0, ())
NO_DEEDS = ()


def is_row(thing):
    if has_word(thing, "take", 4):
        return is_runner(thing[1]) and is_moment(thing[2]) and is_term(thing[3])
    return has_word(thing, "give", 3) and is_runner(thing[1]) and is_moment(thing[2])


def check_rows(rows):
    if not isinstance(rows, list):
        raise NoHolds("this is no list of takes and gives")
    latest = 0
    for row in rows:
        if not is_row(row) or row[2] < latest:
            raise NoHolds("this is no take or give, or its moment falls")
        latest = row[2]


def walked_holds(rows):
    hall = Hall(ANY_ZONE, NO_DEEDS)
    found = []
    for row in rows:
        told = do(hall, row)
        held = hall.held()
        if held[2] > len(found):
            found.append((row[1], row[2], held[1]))
        elif told is True:
            found[-1] = (row[1], found[-1][1], held[1])
        elif told is None:
            # None is told of a give alone, that was not refused: the hold ends ahead of its term.
            found[-1] = (row[1], found[-1][1], row[2])
    return found


def lasting_holds(rows):
    return [hold for hold in walked_holds(rows) if hold[1] < hold[2]]


def all_holds(rows):
    check_rows(rows)
    return lasting_holds(rows)


def held_by(rows):
    check_rows(rows)
    hours = {}
    for runner, first, behind in lasting_holds(rows):
        hours[runner] = hours.get(runner, 0) + behind - first
    return sorted(hours.items())


def holder_at(rows, moment):
    check_rows(rows)
    check_moment(moment)
    for runner, first, behind in lasting_holds(rows):
        if first <= moment < behind:
            return runner
    return None


def nobody(rows, last):
    check_rows(rows)
    check_moment(last)
    found = []
    start = 0
    # A hold that would begin behind the last moment ends the last stretch as any other one.
    ends = lasting_holds(rows) + [(None, last + 1, last + 1)]
    for runner, first, behind in ends:
        end = min(first - 1, last)
        if start <= end:
            found.append((start, end))
        start = behind
    return found
