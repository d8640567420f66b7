"""A hall: deeds that are due by plans, and runners, of which one holds the hall at a time and does them."""

from duehall.checks import check_count, check_deeds, check_moment, check_runner, check_term, check_zone, is_whole
from duehall.errors import NoDeed, NoMoment, NotHolder, Nothing
from duehall.plans import time_of, times_by

PLAN = 0
LATE = 1
AGAIN = 2


def is_left_out(zone, deed, count, now):
    if deed[LATE] == "all":
        return False
    if deed[LATE] == "last":
        later = time_of(zone, deed[PLAN], count + 1)
        return later is not None and later <= now
    return now - time_of(zone, deed[PLAN], count) > deed[LATE][1]


class Hall:
    def __init__(self, zone, deeds):
        check_zone(zone)
        check_deeds(deeds)
        self.zone = zone
        self.deeds = deeds
        # Ahead of the first call there is no moment by which anything could be due.
        self.last = None
        self.holder = None
        self.until = 0
        self.holds = 0
        # One time alone can be begun and not settled: a tuple (deed, count, hold).
        self.begun = None
        self.rows = []
        # What the rows tell last of each time, and how many times of each deed they settle.
        self.words = {}
        self.settled = [0 for deed in deeds]

    def is_held(self, moment):
        return self.holder is not None and moment < self.until

    def check_call(self, runner, moment):
        check_runner(runner)
        check_moment(moment)
        if self.last is not None and moment < self.last:
            raise NoMoment("a runner called at a later moment already")

    def check_holder(self, runner, moment):
        self.check_call(runner, moment)
        if not self.is_held(moment) or self.holder != runner:
            raise NotHolder("this runner does not hold the hall")

    def take(self, runner, moment, term):
        self.check_call(runner, moment)
        check_term(term)
        self.last = moment
        if not self.is_held(moment):
            self.holds += 1
        elif self.holder != runner:
            return False
        self.holder = runner
        self.until = moment + term
        return True

    def give(self, runner, moment):
        self.check_holder(runner, moment)
        self.last = moment
        self.holder = None

    def add_row(self, row):
        word = row[2]
        deed = row[3]
        count = row[4]
        self.rows.append(row)
        self.words[(deed, count)] = word
        if word == "begun":
            self.begun = (deed, count, self.holds)
        else:
            self.begun = None
            self.settled[deed] = count + 1
        return (word, deed, count)

    def is_busy(self):
        return self.begun is not None and self.begun[2] == self.holds

    def first_unsettled(self):
        found = []
        for deed in range(len(self.deeds)):
            count = self.settled[deed]
            moment = time_of(self.zone, self.deeds[deed][PLAN], count)
            if moment is not None:
                found.append((moment, deed, count))
        return min(found, default=None)

    def step(self, runner, moment):
        self.check_holder(runner, moment)
        self.last = moment
        if self.is_busy():
            return ("busy", self.begun[0], self.begun[1])
        if self.begun is not None:
            return self.step_behind_a_fall(runner, moment)
        return self.step_ahead(runner, moment)

    def step_behind_a_fall(self, runner, moment):
        deed = self.begun[0]
        # Nobody knows how far the fallen runner came, so that only what may be done twice is begun anew.
        word = "begun" if self.deeds[deed][AGAIN] else "unsure"
        return self.add_row((moment, runner, word, deed, self.begun[1]))

    def step_ahead(self, runner, moment):
        found = self.first_unsettled()
        if found is None:
            return ("idle", None)
        if found[0] > moment:
            return ("idle", found[0])
        deed = found[1]
        count = found[2]
        word = "left" if is_left_out(self.zone, self.deeds[deed], count, moment) else "begun"
        return self.add_row((moment, runner, word, deed, count))

    def finish(self, runner, moment):
        self.check_holder(runner, moment)
        if not self.is_busy():
            raise Nothing("nothing is begun in this hold")
        self.last = moment
        return self.add_row((moment, runner, "done", self.begun[0], self.begun[1]))

    def state(self, deed, count):
        if not is_whole(deed, 0, len(self.deeds) - 1):
            raise NoDeed("the hall has no such deed")
        check_count(count)
        if (deed, count) in self.words:
            return self.words[(deed, count)]
        moment = time_of(self.zone, self.deeds[deed][PLAN], count)
        if moment is None:
            return "none"
        return "due" if self.last is not None and moment <= self.last else "coming"

    def held(self):
        return (self.holder, self.until, self.holds)

    def log(self):
        return list(self.rows)

    def waiting(self):
        if self.last is None:
            return [0 for deed in self.deeds]
        return [
            times_by(self.zone, deed[PLAN], self.last) - many
            for deed, many in zip(self.deeds, self.settled)
        ]

    def saved(self):
        return (self.zone, self.deeds, self.last, self.holder, self.until, self.holds, self.begun, tuple(self.rows))


def woken(thing):
    hall = Hall(thing[0], thing[1])
    for row in thing[7]:
        hall.add_row(row)
    hall.last = thing[2]
    hall.holder = thing[3]
    hall.until = thing[4]
    hall.holds = thing[5]
    # The rows don't tell in which hold a time was begun.
    hall.begun = thing[6]
    return hall
