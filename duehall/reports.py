"""What the log of a hall tells."""

from duehall.checks import check_plan, check_zone, is_whole
from duehall.errors import NoDeed
from duehall.plans import time_of

WORDS = ("begun", "done", "left", "unsure")


def tally(rows, deed):
    words = [row[2] for row in rows if row[3] == deed]
    return tuple([words.count(word) for word in WORDS])


def tallies(hall):
    rows = hall.log()
    return [tally(rows, deed) for deed in range(len(hall.deeds))]


def lateness(hall, zone, plan, deed):
    check_zone(zone)
    check_plan(plan)
    if not is_whole(deed, 0, len(hall.deeds) - 1):
        raise NoDeed("the hall has no such deed")
    return [
        row[0] - time_of(zone, plan, row[4])
        for row in hall.log()
        if row[2] == "done" and row[3] == deed
    ]


def begun_again(hall):
    often = {}
    for moment, runner, word, deed, count in hall.log():
        if word == "begun":
            often[(deed, count)] = often.get((deed, count), 0) + 1
    return [(pair[0], pair[1], often[pair]) for pair in sorted(often) if often[pair] > 1]


def by_runner(hall):
    many = {}
    for moment, runner, word, deed, count in hall.log():
        if word == "done":
            many[runner] = many.get(runner, 0) + 1
    return sorted(many.items())


def long_done(hall):
    found = []
    begins = {}
    for moment, runner, word, deed, count in hall.log():
        if word == "begun":
            begins[(deed, count)] = moment
        elif word == "done":
            found.append((deed, count, moment - begins[(deed, count)]))
    return sorted(found)
