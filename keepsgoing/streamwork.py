"""The streams of a flat program, worked out tick by tick."""

from keepsgoing.clockbook import ClockBook
from keepsgoing.clocksof import part_clocks
from keepsgoing.exprparts import lasts_around, lasts_from_left, listed, own_resets
from keepsgoing.flathangs import Hanging, input_clocks, loose_inputs
from keepsgoing.kinds import zero
from keepsgoing.kindsof import part_kinds
from keepsgoing.partwork import Desk, part_worker
from keepsgoing.streamknots import StreamKnot

KEEPING = ("last", "then", "held", "fresh")


class Streams:
    """The streams of a flat program that is let.

    What parts keep is put back to its beginning by put_back_at alone; resets do nothing here,
    but reset_cells has the resets and the cell of each part that has some.
    """

    def __init__(self, flat, fillings=()):
        self.flat = flat
        exprs = [listed(equation[4]) for equation in flat[2]]
        clocks = part_clocks(flat)
        own_clocks = [told[-1] for told in clocks]
        self.places = _places_of(flat)
        self.desk = Desk(len(self.places), sum(len(parts) for parts in exprs))
        self.book = ClockBook(self.places)
        self.put_back = {}
        self.own_cells = []
        self.reset_cells = []
        self.early = []
        self.late = []
        self.stores = []
        self.firsts = []
        self.roots = []
        self._add_all(exprs, clocks, part_kinds(flat), list(fillings))
        self.tasks = self._tasks(own_clocks)

    def _add_all(self, exprs, clocks, kinds, fillings):
        first = 0
        for at, parts in enumerate(exprs):
            self.firsts.append(first)
            self.early.append([])
            self.own_cells.append([])
            within = lasts_around(parts)
            lasts = lasts_from_left(parts)
            filled = {place: filling for place, filling in zip(lasts, fillings)}
            fillings = fillings[len(lasts):]
            for place in range(len(parts)):
                filling = filled.get(place, zero(kinds[at][place]))
                step = self._step(at, parts[place], kinds[at], (kinds[at][place], filling))
                clock = self.book.number(clocks[at][place])
                steps = self.late if within[place] else self.early[at]
                steps.append((first + place, clock, step))
            first += len(parts)
            self.roots.append(first - 1)

    def _step(self, at, listed_part, kinds, own):
        part, inner = listed_part
        kind, filling = own
        first = self.firsts[at]
        cell = None
        if part[0] in KEEPING:
            cell = self.desk.new_cell()
            self.own_cells[at].append(cell)
            self.reset_cells.append((own_resets(part), cell))
        if part[0] == "last":
            self.stores.append((cell, first + inner[0]))
        facts = (kind, tuple([kinds[place] for place in inner]), cell, filling)
        places = [first + place for place in inner]
        looked = self.places[part[1]] if part[0] in ("name", "merge", "fresh") else None
        return part_worker(self.desk, part, places, looked, facts)

    def _tasks(self, clocks):
        """Return what is done in a tick behind the taking of a row, as words and things."""
        many = len(self.flat[2])
        hanging = Hanging(self.flat, clocks)
        loose = self._loose_ones(clocks)
        knots = {knot: True for knot in hanging.knots()}
        tasks = []
        for group in hanging.in_groups():
            if group in knots:
                tasks.append(("knot", StreamKnot(self, group, clocks[group[0]])))
            elif group[0] < many:
                tasks.append(("one", group[0]))
            else:
                tasks.append(("loose", loose[group[0] - many]))
        return tasks

    def _loose_ones(self, clocks):
        numbers = {each[0]: number for number, each in enumerate(self.flat[1])}
        told = input_clocks(self.flat, clocks)
        return [(numbers[name], self.places[name], self.book.number(told[name]))
                for name in loose_inputs(self.flat)]

    def put_back_at(self, name, cells):
        """From now on, put these cells back when the name is there and 1."""
        self.put_back.setdefault(self.places[name], []).extend(cells)

    def tick(self, row):
        """Work out one tick with a row of inputs."""
        self.book.begin_tick()
        self._take_in(row)
        for word, thing in self.tasks:
            if word == "one":
                self.do_steps(self.early[thing])
                self._tell(thing)
            elif word == "knot":
                thing.tell_all()
            else:
                number, place, clock = thing
                is_there = self.book.is_there(clock, self.desk.named)
                self.tell_name(place, row[number] if is_there else None)
        self.do_steps(self.late)
        for cell, place in self.stores:
            if self.desk.parted[place] is not None:
                self.desk.kept[cell] = self.desk.parted[place]
        self.book.end_tick(self.desk.named)

    def _take_in(self, row):
        for (name, _, event), given in zip(self.flat[1], row):
            if event == 1:
                self.tell_name(self.places[name + "@here"], 0 if given is None else 1)
            if event in (0, 1):
                self.tell_name(self.places[name], given)

    def do_steps(self, steps):
        """Work out some parts, each one of which has what it needs."""
        desk = self.desk
        for place, clock, work in steps:
            desk.parted[place] = work() if self.book.is_there(clock, desk.named) else None

    def _tell(self, at):
        self.tell_name(self.places[self.flat[2][at][0]], self.desk.parted[self.roots[at]])

    def tell_name(self, place, value):
        """Tell the value of the name at a place, and put back what it puts back."""
        self.desk.named[place] = value
        if value == 1 and place in self.put_back:
            for cell in self.put_back[place]:
                self.desk.kept[cell] = None

    def value_of(self, name):
        """Return the value of a name at the last tick, None if it was not there."""
        return self.desk.named[self.places[name]]


def _places_of(flat):
    names = []
    for name, _, event in flat[1]:
        names.append(name)
        if event == 1:
            names.append(name + "@here")
    names.extend([equation[0] for equation in flat[2]])
    return {name: place for place, name in enumerate(names)}
