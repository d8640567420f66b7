"""Plans compared: how many times they have, where they meet, and how far their times are apart."""

from duehall.checks import check_moment, check_plan, check_zone, is_whole
from duehall.errors import NoCount
from duehall.plans import dues, time_of, times_by

MOST_GAPS = 999


def how_many(zone, plan, first, last):
    check_zone(zone)
    check_plan(plan)
    check_moment(first)
    check_moment(last)
    # If the last moment is less the difference falls below 0.
    return max(0, times_by(zone, plan, last) - times_by(zone, plan, first - 1))


def meet(zone, one, other, last):
    check_zone(zone)
    check_plan(one)
    check_plan(other)
    check_moment(last)
    is_due = {}
    for count, moment in dues(zone, one, 0, last):
        is_due[moment] = True
    for count, moment in dues(zone, other, 0, last):
        if moment in is_due:
            return moment
    return None


def gaps(zone, plan, many):
    check_zone(zone)
    check_plan(plan)
    if not is_whole(many, 0, MOST_GAPS):
        raise NoCount("this is no count of gaps")
    found = []
    for count in range(many):
        later = time_of(zone, plan, count + 1)
        if later is None:
            break
        found.append(later - time_of(zone, plan, count))
    return found


def count_at(zone, plan, moment):
    check_zone(zone)
    check_plan(plan)
    check_moment(moment)
    times = times_by(zone, plan, moment)
    return times - 1 if times > 0 else None
