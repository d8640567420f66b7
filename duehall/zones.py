"""What the wall shows, and at which moments it shows it."""

from duehall.checks import LAST_HOUR, check_moment, check_zone, is_whole
from duehall.errors import NoMoment

DAY_HOURS = 24
FIRST_DAY = -1
LAST_DAY = 9999


def shown(zone, moment):
    ahead = zone[0]
    for shift in zone[1]:
        if shift[0] <= moment:
            ahead = shift[1]
    return moment + ahead


def stretches(zone):
    # Between two shifts the wall goes on evenly, so that an hour is found there without a walk.
    # The last stretch has no end: times are due behind the last moment that can be handed in, too.
    starts = [0] + [shift[0] for shift in zone[1]]
    ends = starts[1:] + [None]
    aheads = [zone[0]] + [shift[1] for shift in zone[1]]
    return list(zip(starts, ends, aheads))


def is_ahead_of(moment, end):
    return end is None or moment < end


def moments_showing(zone, hours):
    found = []
    for start, end, ahead in stretches(zone):
        moment = hours - ahead
        if start <= moment and is_ahead_of(moment, end):
            found.append(moment)
    return found


def first_showing(zone, hours):
    # A stretch may begin behind the hour that is looked for: then its start shows more already.
    reached = [
        max(start, hours - ahead)
        for start, end, ahead in stretches(zone)
        if is_ahead_of(max(start, hours - ahead), end)
    ]
    return reached[0]


def furthest_shown(zone, moment):
    # Put back, the wall shows less again; what it showed at most, up to there, stays the most.
    return max([
        (moment if is_ahead_of(moment, end) else end - 1) + ahead
        for start, end, ahead in stretches(zone)
        if start <= moment
    ])


def wall(zone, moment):
    check_zone(zone)
    check_moment(moment)
    return divmod(shown(zone, moment), DAY_HOURS)


def moments(zone, day, hour):
    check_zone(zone)
    if not is_whole(day, FIRST_DAY, LAST_DAY):
        raise NoMoment("this is no day")
    if not is_whole(hour, 0, LAST_HOUR):
        raise NoMoment("this is no hour of a day")
    return moments_showing(zone, day * DAY_HOURS + hour)
