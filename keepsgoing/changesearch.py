"""A search through the rows with which a flow is run, changed at some time, and run on."""

from keepsgoing.errors import TooMany


class ChangeSearch:
    """What is reached by so many rows, level by level, with a change made at any time.

    A world tells by `old_behind(state)` the states of the old flow behind a state, one for each
    row, None for rows that do not count; by `changed(state)` what there is directly behind a
    change; and by `new_behind(thing)` for each row None, or whether it is what is looked for, and
    the thing behind it. In a level, ranks order the rows that lead here. Of the rows and the times
    of the change that lead to one thing, only the first ones are kept.
    """

    def __init__(self, world, start):
        self.world = world
        self.old_ways = {start: None}
        self.new_ways = {world.changed(start): (None, start)}
        self.old_level = [(0, start)]
        self.new_level = [(0, 0, world.changed(start))]
        self.behind = []
        self.many = 0

    def first(self, most, part):
        """Return the numbers of the fewest rows to what is looked for, and the time of the change.

        Return None if there are none. part is what there can be too many of.
        """
        while self.old_level or self.new_level:
            if self.world.size_of(self.old_ways, self.new_ways) > most:
                raise TooMany(part)
            found = self._look()
            if found is not None:
                return found
            self._go_on()
        return None

    def _look(self):
        """Return the first rows and time of this level that are looked for, or None."""
        self.behind = [self.world.new_behind(thing) for _, _, thing in self.new_level]
        hits = []
        for (rank, time, thing), behind in zip(self.new_level, self.behind):
            for row, told in enumerate(behind):
                if told is not None and told[0]:
                    hits.append((rank, row, time, thing))
        if not hits:
            return None
        _, row, time, thing = min(hits)
        return (self._rows_to(thing) + [row], time)

    def _go_on(self):
        """Go on to the next level."""
        self.many += 1
        old = {}
        new = {}
        for rank, state in self.old_level:
            for row, after in enumerate(self.world.old_behind(state)):
                if after is not None and after not in self.old_ways:
                    self.old_ways[after] = (state, row)
                    old[after] = (rank, row)
        for (rank, time, thing), behind in zip(self.new_level, self.behind):
            for row, told in enumerate(behind):
                if told is not None:
                    self._offer(new, told[1], (rank, row, time), (row, thing))
        for state, place in old.items():
            self._offer(new, self.world.changed(state), place + (self.many,), (None, state))
        for thing, (_, way) in new.items():
            self.new_ways[thing] = way
        self._rank(old, new)

    def _offer(self, new, thing, place, way):
        """Note a way to a thing that is new, if there is none ahead of it."""
        if thing in self.new_ways:
            return
        if thing not in new or place < new[thing][0]:
            new[thing] = (place, way)

    def _rank(self, old, new):
        """Set the levels: ways by the same rows get the same rank. The old states are in order already."""
        places = list(old.values()) + [place[:2] for place, _ in new.values()]
        ranks = {place: rank for rank, place in enumerate(sorted(set(places)))}
        self.old_level = [(ranks[place], state) for state, place in old.items()]
        self.new_level = [(ranks[place[:2]], place[2], thing) for thing, (place, _) in new.items()]

    def _rows_to(self, thing):
        """Return the numbers of the rows that lead to a thing, in a list."""
        rows = []
        row, ahead = self.new_ways[thing]
        while row is not None:
            rows.append(row)
            row, ahead = self.new_ways[ahead]
        while self.old_ways[ahead] is not None:
            ahead, row = self.old_ways[ahead]
            rows.append(row)
        rows.reverse()
        return rows
