"""Seats: where the values of nodes are kept during a tick, so that nodes can share cells."""

from keepsgoing.flows import hangs
from keepsgoing.kinds import is_row
from keepsgoing.shapes import is_number_of


def size_of(kind):
    """Return the number of integers in a value of a kind."""
    return kind[2] if is_row(kind) else 1


def lives(flow, order):
    """Return for each node the first and the last place at which it lives."""
    firsts = [0] * len(order)
    lasts = [0] * len(order)
    for place, node in enumerate(order):
        firsts[node] = place
        lasts[node] = place
        # A node stands behind those that it uses, so their lives go on up to here.
        for each in hangs(flow, node):
            lasts[each] = place
    for node in _used_behind(flow):
        lasts[node] = len(order)
    return tuple(zip(firsts, lasts))


def _used_behind(flow):
    """Return the nodes that are used at the place behind all nodes."""
    _, _, nodes, outputs, assumes, keeps = flow
    found = []
    for node in nodes:
        if node[0] in ("delay", "beat"):
            found.extend([each for each, _ in node[2]])
        if node[0] == "delay":
            found.append(node[4])
    for _, node in outputs + assumes + keeps:
        found.append(node)
        found.extend([each for each, _ in nodes[node][2]])
    return found


def judge_seats(flow, order, seating):
    """Tell whether nodes with one seat have one size and live at no place together."""
    many = len(flow[2])
    if len(seating) != many or not all(is_number_of(seat, many) for seat in seating):
        return False
    if len(set(seating)) != max(seating) + 1:
        return False
    told = lives(flow, order)
    latest = {}
    for node in order:
        seat = seating[node]
        size = size_of(flow[2][node][1])
        first, last = told[node]
        if seat in latest:
            last_size, last_place = latest[seat]
            if size != last_size or first <= last_place:
                return False
        latest[seat] = (size, last)
    return True


def seats_of(flow, order):
    """Return a seating with as few seats of each size as there can be.

    A node takes a seat that is free at its place, and a new one only if there is none; so there
    are never more seats of a size than nodes of it live at one place.
    """
    told = lives(flow, order)
    many = 0
    seating = [None] * len(order)
    free = {}
    leaving = [[] for _ in range(len(order) + 1)]
    for place, node in enumerate(order):
        if place > 0:
            for other in leaving[place - 1]:
                free.setdefault(size_of(flow[2][other][1]), []).append(seating[other])
        seats = free.setdefault(size_of(flow[2][node][1]), [])
        if seats:
            seating[node] = seats.pop()
        else:
            seating[node] = many
            many += 1
        leaving[told[node][1]].append(node)
    return tuple(seating)
