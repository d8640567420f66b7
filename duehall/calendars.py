"""Calendars of all deeds: what is due, where nothing is, where the most is, and what comes next."""

from duehall.checks import check_deeds, check_moment, check_stretch, check_zone, is_whole
from duehall.errors import NoWidth
from duehall.plans import dues, time_of, times_by


def rows_between(zone, deeds, first, last):
    found = []
    for number, deed in enumerate(deeds):
        for count, moment in dues(zone, deed[0], first, last):
            found.append((moment, number, count))
    return sorted(found)


def check_calendar(zone, deeds, first, last):
    check_zone(zone)
    check_deeds(deeds)
    check_stretch(first, last)


def calendar(zone, deeds, first, last):
    check_calendar(zone, deeds, first, last)
    return rows_between(zone, deeds, first, last)


def idle_stretch(zone, deeds, first, last):
    check_calendar(zone, deeds, first, last)
    longest = 0
    found = None
    start = first
    # The moment behind the last one ends the last stretch as a time that is due would.
    ends = [row[0] for row in rows_between(zone, deeds, first, last)] + [last + 1]
    for end in ends:
        if end - start > longest:
            longest = end - start
            found = (start, end - 1)
        start = end + 1
    return found


def many_at(zone, deeds, first, last):
    many = {}
    for row in rows_between(zone, deeds, first, last):
        many[row[0]] = many.get(row[0], 0) + 1
    return many


def busiest(zone, deeds, first, last, wide):
    check_calendar(zone, deeds, first, last)
    if not is_whole(wide, 1, last - first + 1):
        raise NoWidth("there are not so many hours")
    many = many_at(zone, deeds, first, last)
    within = sum([many.get(moment, 0) for moment in range(first, first + wide)])
    most = within
    found = first
    # Moved on by one moment the hours win one and lose one, so that they need no count of their own.
    for start in range(first + 1, last - wide + 2):
        within += many.get(start + wide - 1, 0) - many.get(start - 1, 0)
        if within > most:
            most = within
            found = start
    return (found, most)


def next_due(zone, deeds, moment):
    check_zone(zone)
    check_deeds(deeds)
    check_moment(moment)
    found = []
    for number, deed in enumerate(deeds):
        count = times_by(zone, deed[0], moment - 1)
        later = time_of(zone, deed[0], count)
        if later is not None:
            found.append((later, number, count))
    return min(found, default=None)
