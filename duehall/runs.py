"""Calls handed to a hall one by one, and a holder that catches up."""

from duehall.checks import has_word, is_whole
from duehall.errors import DueError, NoCall, NoCount
from duehall.hall import Hall

LENGTHS = {"take": 4, "give": 3, "step": 3, "finish": 3}
MOST_STEPS = 999


def check_call(thing):
    if not any([has_word(thing, word, LENGTHS[word]) for word in LENGTHS]):
        raise NoCall("this is no call")


def ask(hall, call):
    if call[0] == "take":
        return hall.take(call[1], call[2], call[3])
    if call[0] == "give":
        return hall.give(call[1], call[2])
    if call[0] == "step":
        return hall.step(call[1], call[2])
    return hall.finish(call[1], call[2])


def do(hall, call):
    check_call(call)
    try:
        return ask(hall, call)
    except DueError:
        return "refused"


def run(zone, deeds, calls):
    hall = Hall(zone, deeds)
    if not isinstance(calls, list):
        raise NoCall("this is no list of calls")
    return (hall, [do(hall, call) for call in calls])


def catch_up(hall, runner, moment, most):
    if not is_whole(most, 0, MOST_STEPS):
        raise NoCount("this is no count of steps")
    told = []
    for made in range(most):
        row = hall.step(runner, moment)
        told.append(row)
        if row[0] == "idle":
            break
        if row[0] == "begun" or row[0] == "busy":
            told.append(hall.finish(runner, moment))
    return told
