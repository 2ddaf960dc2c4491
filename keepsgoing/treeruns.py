"""The plain run of a program, which goes by its tree."""

from keepsgoing.flatten import laid_out
from keepsgoing.streamwork import Streams


class ProgramRun:
    """A run of a program whose flat program is let and has no knots."""

    def __init__(self, program):
        flat, spans = laid_out(program)
        self.shown_names = flat[3] + flat[4] + flat[5]
        self.streams = Streams(flat)
        for name, first, end in spans:
            cells = []
            for own in self.streams.own_cells[first:end]:
                cells.extend(own)
            self.streams.put_back_at(name, cells)

    def tick(self, row):
        """Do one tick with a row, and return what is shown."""
        self.streams.tick(row)
        return tuple([self.streams.value_of(name) for name in self.shown_names])

    def ticks(self, rows):
        """Do a tick with each row when it is asked for, and yield what is shown."""
        for row in rows:
            yield self.tick(row)
