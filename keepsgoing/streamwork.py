"""The streams of a flat program, worked out tick by tick."""

from keepsgoing.clockbook import ClockBook
from keepsgoing.clocksof import part_clocks
from keepsgoing.exprparts import lasts_around, listed
from keepsgoing.flathangs import Hanging
from keepsgoing.kinds import zero
from keepsgoing.kindsof import part_kinds
from keepsgoing.partwork import Desk, part_worker

KEEPING = ("last", "then", "held", "fresh")


class Streams:
    """The streams of a flat program that is let, without knots.

    What parts keep is put back to its beginning by put_back_at alone; resets do nothing here.
    """

    def __init__(self, flat):
        self.flat = flat
        exprs = [listed(equation[4]) for equation in flat[2]]
        self.places = _places_of(flat)
        self.desk = Desk(len(self.places), sum(len(parts) for parts in exprs))
        self.book = ClockBook(self.places)
        self.put_back = {}
        self.own_cells = []
        self.early = []
        self.late = []
        self.stores = []
        clocks = part_clocks(flat)
        self._add_all(exprs, clocks, part_kinds(flat))
        self.roots = []
        end = 0
        for parts in exprs:
            end += len(parts)
            self.roots.append(end - 1)
        hanging = Hanging(flat, [told[-1] for told in clocks])
        self.order = [group[0] for group in hanging.in_groups()]

    def _add_all(self, exprs, clocks, kinds):
        first = 0
        for at, parts in enumerate(exprs):
            self.early.append([])
            self.own_cells.append([])
            within = lasts_around(parts)
            for place in range(len(parts)):
                step = self._step(at, first, parts[place], kinds[at], kinds[at][place])
                clock = self.book.number(clocks[at][place])
                steps = self.late if within[place] else self.early[at]
                steps.append((first + place, clock, step))
            first += len(parts)

    def _step(self, at, first, listed_part, kinds, kind):
        part, inner = listed_part
        cell = None
        if part[0] in KEEPING:
            cell = self.desk.new_cell()
            self.own_cells[at].append(cell)
        if part[0] == "last":
            self.stores.append((cell, first + inner[0]))
        facts = (kind, tuple([kinds[place] for place in inner]), cell, zero(kind))
        places = [first + place for place in inner]
        looked = self.places[part[1]] if part[0] in ("name", "merge", "fresh") else None
        return part_worker(self.desk, part, places, looked, facts)

    def put_back_at(self, name, cells):
        """From now on, put these cells back when the name is there and 1."""
        self.put_back[self.places[name]] = cells

    def tick(self, row):
        """Work out one tick with a row of inputs."""
        self.book.begin_tick()
        for (name, _, event), given in zip(self.flat[1], row):
            self.desk.named[self.places[name]] = given
            if event == 1:
                self.desk.named[self.places[name + "@here"]] = 0 if given is None else 1
        for at in self.order:
            self._do_steps(self.early[at])
            self._tell(at)
        self._do_steps(self.late)
        for cell, place in self.stores:
            if self.desk.parted[place] is not None:
                self.desk.kept[cell] = self.desk.parted[place]
        self.book.end_tick(self.desk.named)

    def _do_steps(self, steps):
        desk = self.desk
        for place, clock, work in steps:
            desk.parted[place] = work() if self.book.is_there(clock, desk.named) else None

    def _tell(self, at):
        value = self.desk.parted[self.roots[at]]
        place = self.places[self.flat[2][at][0]]
        self.desk.named[place] = value
        if value == 1 and place in self.put_back:
            for cell in self.put_back[place]:
                self.desk.kept[cell] = None

    def value_of(self, name):
        """Return the value of a name at the last tick, None if it was not there."""
        return self.desk.named[self.places[name]]


def _places_of(flat):
    names = []
    for name, _, event in flat[1]:
        names.append(name)
        if event == 1:
            names.append(name + "@here")
    names.extend([equation[0] for equation in flat[2]])
    return {name: place for place, name in enumerate(names)}
