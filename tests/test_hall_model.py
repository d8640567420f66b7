"""Random calls, told by a hall and by a model that goes over all that happened at each call."""

import random
import unittest

from duehall.errors import DueError
from duehall.hall import Hall, woken
from samples import random_deeds, random_zone, walked_times

LATEST = 400


class Model:
    def __init__(self, zone, deeds):
        self.deeds = deeds
        # Long enough that each time that can be told of is in it.
        self.times = [walked_times(zone, deed[0], LATEST) for deed in deeds]
        self.calls = []
        self.takes = []
        self.rows = []

    def holding(self, moment):
        """Who holds the hall now, up to when, and how many holds there were."""
        holder, until, holds = None, 0, 0
        for kind, runner, at, term in self.takes:
            if kind == "give":
                holder = None
            else:
                holds += holder is None or at >= until or holder != runner
                holder, until = runner, at + term
        return (holder if moment < until else None), holder, until, holds

    def refusal(self, runner, moment):
        if self.calls and moment < self.calls[-1]:
            return "NoMoment"
        return "NotHolder" if self.holding(moment)[0] != runner else None

    def take(self, runner, moment, term):
        if self.calls and moment < self.calls[-1]:
            return "NoMoment"
        self.calls.append(moment)
        if self.holding(moment)[0] not in (None, runner):
            return False
        self.takes.append(("take", runner, moment, term))
        return True

    def give(self, runner, moment):
        refusal = self.refusal(runner, moment)
        if refusal is None:
            self.calls.append(moment)
            self.takes.append(("give", runner, moment, 0))
        return refusal

    def word(self, deed, count):
        words = [row[2] for row in self.rows if row[3:5] == (deed, count)]
        return words[-1] if words else None

    def unfinished(self):
        for row in self.rows:
            if self.word(row[3], row[4]) == "begun":
                where = [other[5] for other in self.rows if other[3:5] == row[3:5]][-1]
                return row[3], row[4], where
        return None

    def write(self, moment, runner, word, deed, count):
        self.rows.append((moment, runner, word, deed, count, self.holding(moment)[3]))
        return (word, deed, count)

    def is_late(self, deed, count, moment):
        late = self.deeds[deed][1]
        if late == "all":
            return False
        if late == "last":
            return any(at <= moment for at in self.times[deed][count + 1:])
        return self.times[deed][count] + late[1] < moment

    def step(self, runner, moment):
        refusal = self.refusal(runner, moment)
        if refusal is not None:
            return refusal
        self.calls.append(moment)
        begun = self.unfinished()
        if begun is not None:
            deed, count, where = begun
            if where == self.holding(moment)[3]:
                return ("busy", deed, count)
            return self.write(moment, runner, "begun" if self.deeds[deed][2] else "unsure", deed, count)
        open_times = [(at, deed, count) for deed, times in enumerate(self.times) for count, at in enumerate(times)
                      if self.word(deed, count) is None]
        if not open_times:
            return ("idle", None)
        at, deed, count = min(open_times)
        if at > moment:
            return ("idle", at)
        return self.write(moment, runner, "left" if self.is_late(deed, count, moment) else "begun", deed, count)

    def finish(self, runner, moment):
        refusal = self.refusal(runner, moment)
        if refusal is not None:
            return refusal
        begun = self.unfinished()
        if begun is None or begun[2] != self.holding(moment)[3]:
            return "Nothing"
        self.calls.append(moment)
        return self.write(moment, runner, "done", begun[0], begun[1])

    def state(self, deed, count):
        if self.word(deed, count) is not None:
            return self.word(deed, count)
        if self.deeds[deed][0][0] == "once" and count > 0:
            return "none"
        times = self.times[deed]
        return "due" if self.calls and count < len(times) and times[count] <= self.calls[-1] else "coming"

    def waiting(self):
        return [sum(self.state(deed, count) in ("due", "begun") for count in range(len(times)))
                for deed, times in enumerate(self.times)]


def told(hall, method, *handed):
    try:
        return getattr(hall, method)(*handed)
    except DueError as refusal:
        return type(refusal).__name__


class AsTheModel(unittest.TestCase):
    def calls(self, chance, many):
        moment = 0
        for _ in range(many):
            moment += chance.choice((0, 0, 0, 0, 1, 1, 2, 7))
            at = max(0, moment - chance.choice((0,) * 9 + (1,)))
            runner = chance.choice((0, 0, 0, 1, 2))
            method = chance.choice(("take", "take", "step", "step", "step", "step", "finish", "finish", "give"))
            if method != "give" or chance.random() < 0.4:
                yield (method, runner, at) + ((chance.choice((1, 3, 10, 30)),) if method == "take" else ())

    def test_in_many_halls(self):
        chance = random.Random(23)
        for _ in range(60):
            zone = random_zone(chance, 100)
            deeds = random_deeds(chance, 60)
            hall, model = Hall(zone, deeds), Model(zone, deeds)
            for call in self.calls(chance, 120):
                self.assertEqual(told(hall, *call), told(model, *call), (zone, deeds, call))
                if chance.random() < 0.1:
                    hall = woken(hall.saved())
                self.assertEqual(hall.held(), model.holding(0)[1:])
            self.assertEqual(hall.log(), [row[:5] for row in model.rows])
            self.assertEqual(hall.waiting(), model.waiting())
            for deed in range(len(deeds)):
                for count in range(30):
                    self.assertEqual(hall.state(deed, count), model.state(deed, count))


if __name__ == "__main__":
    unittest.main()
