"""Lags: by how many ticks each controller of a split works behind the first ones."""

from itertools import permutations

from keepsgoing.buses import frame_ticks
from keepsgoing.errors import NoLags
from keepsgoing.shapes import is_int, is_tuple_of
from keepsgoing.splits import controllers, foreign


def judge_lags(flow, split, bus, lags):
    """Tell whether by these lags each value is there when it is needed."""
    if not is_tuple_of(lags, controllers(split)):
        return False
    if not all(is_int(lag) and lag >= 0 for lag in lags):
        return False
    needs = _needs(flow, split, bus)
    return all(lags[other] >= lags[owner] + ticks for (owner, other), ticks in needs.items())


def least_lags(flow, split, bus):
    """Return the least lags of a split over a bus."""
    needs = _needs(flow, split, bus)
    many = controllers(split)
    ring = _first_ring(needs, many)
    if ring is not None:
        raise NoLags(ring)
    lags = [0] * many
    # Without such rings no lag comes by more steps than there are controllers.
    for _ in range(many):
        for (owner, other), ticks in needs.items():
            lags[other] = max(lags[other], lags[owner] + ticks)
    return tuple(lags)


def _needs(flow, split, bus):
    """Return the most ticks that a frame takes from a controller to another one, by these two."""
    needs = {}
    for other in range(controllers(split)):
        for node in foreign(flow, split, other):
            ticks = frame_ticks(flow, split, bus, node, other)
            pair = (split[node], other)
            needs[pair] = max(needs.get(pair, ticks), ticks)
    return needs


def _first_ring(needs, many):
    """Return the first ring of controllers that takes more than no ticks, or None."""
    for size in range(2, many + 1):
        for ring in permutations(range(many), size):
            if ring[0] == min(ring) and _takes_ticks(needs, ring):
                return ring
    return None


def _takes_ticks(needs, ring):
    pairs = list(zip(ring, ring[1:] + ring[:1]))
    if not all(pair in needs for pair in pairs):
        return False
    return sum([needs[pair] for pair in pairs]) > 0
