"""The flat run: a flat program that is let, tick by tick."""

from keepsgoing.exprparts import lasts_from_left, listed
from keepsgoing.kindsof import part_kinds
from keepsgoing.streamwork import Streams


class FlatRun:
    """A run of a flat program that is let; the fillings are those of its lasts."""

    def __init__(self, flat, fillings=()):
        self.shown_names = flat[3] + flat[4] + flat[5]
        self.streams = Streams(flat, fillings)
        for names, cell in self.streams.reset_cells:
            for name in names:
                self.streams.put_back_at(name, [cell])

    def tick(self, row):
        """Do one tick with a row, and return what is shown."""
        self.streams.tick(row)
        return tuple([self.streams.value_of(name) for name in self.shown_names])

    def ticks(self, rows):
        """Do a tick with each row when it is asked for, and yield what is shown."""
        for row in rows:
            yield self.tick(row)


def lasts_of(flat):
    """Return the kinds of the lasts, in the order of the fillings."""
    found = []
    for equation, kinds in zip(flat[2], part_kinds(flat)):
        found.extend([kinds[place] for place in lasts_from_left(listed(equation[4]))])
    return tuple(found)
