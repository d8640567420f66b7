"""The times that a plan has."""

from duehall.checks import check_count, check_moment, check_plan, check_zone
from duehall.zones import DAY_HOURS, first_showing, furthest_shown, shown


def first_day(zone, hour):
    # Rounded up: an hour that the wall is past at moment 0 has its first time a day later.
    return -((hour - shown(zone, 0)) // DAY_HOURS)


def daily_time(zone, hour, count):
    day = first_day(zone, hour) + count
    return first_showing(zone, day * DAY_HOURS + hour)


def time_of(zone, plan, count):
    if plan[0] == "once":
        return plan[1] if count == 0 else None
    if plan[0] == "every":
        return plan[1] + count * plan[2]
    return daily_time(zone, plan[1], count)


def times_by(zone, plan, moment):
    # What is due ahead of moment 0 is asked for, too: there the wall has shown nothing yet.
    if moment < 0:
        return 0
    if plan[0] == "once":
        return 1 if plan[1] <= moment else 0
    if plan[0] == "every":
        return max(0, (moment - plan[1]) // plan[2] + 1)
    last_day = (furthest_shown(zone, moment) - plan[1]) // DAY_HOURS
    return last_day - first_day(zone, plan[1]) + 1


def due(zone, plan, count):
    check_zone(zone)
    check_plan(plan)
    check_count(count)
    return time_of(zone, plan, count)


def dues(zone, plan, first, last):
    check_zone(zone)
    check_plan(plan)
    check_moment(first)
    check_moment(last)
    found = []
    count = 0
    moment = time_of(zone, plan, count)
    # The times of a plan never fall, so that the first one too late ends the walk.
    while moment is not None and moment <= last:
        if first <= moment:
            found.append((count, moment))
        count += 1
        moment = time_of(zone, plan, count)
    return found
