"""The knots of a flat program, worked out tick by tick."""

from keepsgoing.flatknots import KnotLook, codes_of
from keepsgoing.logic import settled_values


class StreamKnot:
    """A knot of streams: the equations with these numbers, which have one clock."""

    def __init__(self, streams, knot, clock):
        self.streams = streams
        equations = [streams.flat[2][at] for at in knot]
        self.names = tuple([equation[0] for equation in equations])
        self.clock = streams.book.number(clock)
        exprs = [equation[4] for equation in equations]
        look = KnotLook(self.names)
        for expr in exprs:
            look.takes(expr)
        self.codes = codes_of(self.names, exprs, look.entering)
        self.free_parts = []
        for at, free in zip(knot, look.free):
            first = streams.firsts[at]
            self.free_parts.extend([step for step in streams.early[at] if free[step[0] - first]])
        # Of equal entering parts with unlike fillings the one at the first place counts.
        self.entering = [None] * len(look.entering)
        for number, place, part in reversed(look.places):
            self.entering[part] = streams.firsts[knot[number]] + place

    def tell_all(self):
        """Tell what the names of the knot have in a tick."""
        streams = self.streams
        streams.do_steps(self.free_parts)
        values = [None] * len(self.names)
        if streams.book.is_there(self.clock, streams.desk.named):
            truths = [streams.desk.parted[place] for place in self.entering]
            values = settled_values(self.codes, truths)
        for name, value in zip(self.names, values):
            streams.tell_name(streams.places[name], value)
