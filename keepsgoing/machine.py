"""The machine that runs images."""

from keepsgoing.steps import step_worker
from keepsgoing.trials import Trial


class Machine:
    """A run of a right image; its state is the tuple of what the kept cells contain."""

    def __init__(self, image):
        _, cells, kept, inputs, shown, code = image
        self.inputs = inputs
        self.showing = shown
        self.contents = cells[:kept]
        self.others = cells[kept:]
        self.code = [step_worker(step) for step in code]
        self.last_steps = 0
        self.all_steps = 0

    @classmethod
    def of(cls, made):
        """Return the machine of what is made of a text."""
        return cls(made[5])

    @property
    def state(self):
        """The tuple of what the kept cells contain."""
        return self.contents

    @state.setter
    def state(self, value):
        self.contents = value

    @property
    def cells(self):
        """The tuple of what all cells contain."""
        return self.contents + self.others

    @property
    def steps(self):
        """The number of steps of the last tick."""
        return self.last_steps

    @property
    def total(self):
        """The number of steps of all ticks."""
        return self.all_steps

    def spoil(self, cells):
        """Exchange what the cells that are not kept contain."""
        self.others = tuple(cells)

    def tick(self, row):
        """Do one tick with a row, and return what is shown."""
        kept = len(self.contents)
        cells = list(self.contents + self.others)
        for place, given in zip(self.inputs, row):
            _take_in(cells, place, given)
        many = 0
        at = 0
        while at < len(self.code):
            work = self.code[at]
            at += work(cells)
            many += 1
        self.last_steps = many
        self.all_steps += many
        self.contents = tuple(cells[:kept])
        self.others = tuple(cells[kept:])
        return tuple([_shown(cells, each) for each in self.showing])

    def ticks(self, rows):
        """Do a tick with each row when it is asked for, and yield what is shown."""
        for row in rows:
            yield self.tick(row)

    def resume(self, state):
        """Go on from a state."""
        self.contents = state

    def trial(self):
        """Return a trial, behind which the state is what it was."""
        return Trial(self)

    def tried(self, rows):
        """Return what the ticks of the rows show; the state stays."""
        kept = self.contents
        try:
            return tuple([self.tick(row) for row in rows])
        finally:
            self.contents = kept


def _take_in(cells, place, given):
    """Write what an input is given to its cells."""
    cell, size, here = place
    if here is not None and given is None:
        cells[here] = 0
        return
    if size is None:
        cells[cell] = given
    else:
        cells[cell:cell + size] = given
    if here is not None:
        cells[here] = 1


def _shown(cells, place):
    """Return what the cells of a thing that is shown contain; None if a guard does not let it."""
    cell, size, guards = place
    for guard, value in guards:
        if cells[guard] != value:
            return None
    return cells[cell] if size is None else tuple(cells[cell:cell + size])
