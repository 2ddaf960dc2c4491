"""Changes of program: whether they are seen, whether the contract is kept, and changed runs."""

from keepsgoing.carrying import carried
from keepsgoing.changesearch import ChangeSearch
from keepsgoing.contents import cell_kinds, is_state
from keepsgoing.deciding import rows_of
from keepsgoing.flowruns import FlowRun
from keepsgoing.nodework import beginning_of
from keepsgoing.shapes import is_ascending, is_tuple_of
from keepsgoing.ticking import Ticking


class Change:
    """A change from an old flow to a new one by a carry paper that is taken."""

    def __init__(self, old, new, paper):
        self.flows = (old, new, paper)
        self.rows = rows_of(old)
        self.old_look = Ticking(old)
        self.new_look = Ticking(new)
        self.start = beginning_of(old)

    def carry(self, state):
        """Return the carried state of a state of the old flow."""
        old, new, paper = self.flows
        return carried(old, new, paper, state)


class SeenWorld:
    """Pairs of a state of the old flow, as if it had gone on, and one of the new flow; all rows count."""

    def __init__(self, change):
        self.change = change

    def old_behind(self, state):
        """Return the states of the old flow behind a state, one for each row."""
        return [self.change.old_look.after(state, row) for row in self.change.rows]

    def changed(self, state):
        """Return the pair directly behind a change."""
        return (state, self.change.carry(state))

    def new_behind(self, pair):
        """Return for each row whether both flows show something different, and the pair behind it."""
        state, other = pair
        found = []
        for row in self.change.rows:
            shown, after = self.change.old_look.shown_and_after(state, row)
            other_shown, other_after = self.change.new_look.shown_and_after(other, row)
            found.append((shown != other_shown, (after, other_after)))
        return found

    def size_of(self, old_ways, new_ways):
        """Return how many pairs are reached."""
        return len(new_ways)


class KeptWorld:
    """States of the old and of the new flow; only rows that are let count."""

    def __init__(self, change):
        self.change = change

    def old_behind(self, state):
        """Return for each row the state of the old flow behind a state, None if it is not let."""
        told = [self.change.old_look.let_tick(state, row) for row in self.change.rows]
        return [None if each is None else each[1] for each in told]

    def changed(self, state):
        """Return the state of the new flow directly behind a change."""
        return self.change.carry(state)

    def new_behind(self, state):
        """Return for each row that is let whether it breaks the contract, and the state behind it."""
        return [self.change.new_look.let_tick(state, row) for row in self.change.rows]

    def size_of(self, old_ways, new_ways):
        """Return how many states of both flows are reached."""
        return len(old_ways) + len(new_ways)


def seen_change(old, new, paper, most):
    """Return the first of the fewest rows that see a change, or all pairs of states that are reached."""
    return _searched(SeenWorld(Change(old, new, paper)), most, ("seen", "never", "pairs"))


def kept_on(old, new, paper, most):
    """Return the first of the fewest rows that break the contract, or all states that are reached."""
    return _searched(KeptWorld(Change(old, new, paper)), most, ("broken", "kept", "states"))


def _searched(world, most, words):
    found_word, none_word, part = words
    search = ChangeSearch(world, world.change.start)
    found = search.first(most, part)
    if found is None:
        return (none_word, tuple(sorted(search.new_ways)))
    numbers, time = found
    return (found_word, tuple([world.change.rows[number] for number in numbers]), time)


def judge_pairs(old, new, paper, pairs):
    """Tell whether a set of pairs is closed, so that the change is never seen."""
    change = Change(old, new, paper)
    kinds, others = cell_kinds(old), cell_kinds(new)
    if not isinstance(pairs, tuple) or not all(_is_pair(kinds, others, pair) for pair in pairs):
        return False
    if not is_ascending(pairs):
        return False
    held = {pair: True for pair in pairs}
    world = SeenWorld(change)
    if world.changed(change.start) not in held:
        return False
    for pair in pairs:
        for is_seen, after in world.new_behind(pair):
            if is_seen or after not in held or world.changed(after[0]) not in held:
                return False
    return True


def _is_pair(kinds, others, pair):
    if not is_tuple_of(pair, 2):
        return False
    return is_state(kinds, pair[0]) and is_state(others, pair[1])


class ChangedRun:
    """A run of the old flow for so many ticks, and of the new one from then on."""

    def __init__(self, old, new, paper, at):
        self.flows = (old, new, paper)
        self.run = FlowRun(old)
        self.left = at

    def tick(self, row):
        """Do one tick with a row, and return what is shown."""
        if self.left == 0:
            self._change()
        if self.left >= 0:
            self.left -= 1
        return self.run.tick(row)

    def _change(self):
        old, new, paper = self.flows
        state = carried(old, new, paper, self.run.state)
        self.run = FlowRun(new)
        self.run.resume(state)

    def ticks(self, rows):
        """Do a tick with each row when it is asked for, and yield what is shown."""
        for row in rows:
            yield self.tick(row)
