"""Which clocks are there, tick by tick."""


class ClockBook:
    """Clocks numbered from 0, which is `()`, each with the number of the one ahead of its last layer.

    places tells where the value of a name stands among those of a tick.
    """

    def __init__(self, places):
        self.places = places
        self.numbers = {(): 0}
        self.above = [0]
        self.tests = [None]
        self.counts = [0]
        self.there = [True]

    def number(self, clock):
        """Return the number of a clock, which it is given when it is new."""
        known = len(clock)
        while clock[:known] not in self.numbers:
            known -= 1
        for size in range(known + 1, len(clock) + 1):
            self.above.append(self.numbers[clock[:size - 1]])
            self.tests.append(self._test(clock[size - 1]))
            self.numbers[clock[:size]] = len(self.counts)
            self.counts.append(0)
            self.there.append(None)
        return self.numbers[clock]

    def _test(self, layer):
        """Return a layer as its word and two numbers."""
        if layer[0] == "every":
            return layer[:3]
        return ("is", self.places[layer[1]], layer[2][-1])

    def begin_tick(self):
        """Forget which clocks are there."""
        self.there = [True] + [None] * (len(self.there) - 1)

    def is_there(self, number, values):
        """Tell whether a clock is there, by the values of the tick, of which enough are told."""
        unknown = []
        while self.there[number] is None:
            unknown.append(number)
            number = self.above[number]
        for each in reversed(unknown):
            self.there[each] = self._holds(each, values)
        return self.there[unknown[0] if unknown else number]

    def _holds(self, number, values):
        word, many, which = self.tests[number]
        above = self.above[number]
        if word == "is":
            return values[many] == which
        return self.there[above] and self.counts[above] % many == which

    def end_tick(self, values):
        """Count the tick for all clocks that are there."""
        for number in range(len(self.counts)):
            if self.is_there(number, values):
                self.counts[number] += 1
