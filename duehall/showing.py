"""Which hours the wall never shows, or shows often, and where it leaps."""

from duehall.checks import check_stretch, check_zone, is_whole
from duehall.errors import NoMoment
from duehall.zones import DAY_HOURS, moments_showing, shown

LAST_LONG_DAY = 400


def how_often(zone, first, last):
    often = {}
    for moment in range(first, last + 1):
        hours = shown(zone, moment)
        often[hours] = often.get(hours, 0) + 1
    return often


def never_shown(zone, first, last):
    check_zone(zone)
    check_stretch(first, last)
    often = how_often(zone, first, last)
    least = min(list(often))
    greatest = max(list(often))
    return [divmod(hours, DAY_HOURS) for hours in range(least, greatest) if hours not in often]


def shown_often(zone, first, last):
    check_zone(zone)
    check_stretch(first, last)
    often = how_often(zone, first, last)
    return [(divmod(hours, DAY_HOURS), often[hours]) for hours in sorted(often) if often[hours] > 1]


def leaps(zone):
    check_zone(zone)
    found = []
    for shift in zone[1]:
        more = shown(zone, shift[0]) - shown(zone, shift[0] - 1)
        # A shift to the same hours ahead lets the wall go on by one hour, as ever.
        if more != 1:
            found.append((shift[0], more))
    return found


def long_day(zone, day):
    check_zone(zone)
    if not is_whole(day, 0, LAST_LONG_DAY):
        raise NoMoment("this is no day")
    return sum([len(moments_showing(zone, day * DAY_HOURS + hour)) for hour in range(DAY_HOURS)])
