"""Buses: the slots in which the values of crossing nodes go from controller to controller."""

from keepsgoing.errors import TooLarge
from keepsgoing.shapes import is_number_of, is_tuple_of, is_within
from keepsgoing.splits import controllers, crossing, early

MOST_SLOTS = 60


def judge_bus(flow, split, bus):
    """Tell whether a bus has slots for all that the controllers do and tell each other."""
    if not is_tuple_of(bus, 5):
        return False
    word, slots, starts, spans, frames = bus
    many = controllers(split)
    if word != "bus" or not is_within(slots, 1, MOST_SLOTS):
        return False
    if not is_tuple_of(starts, many) or not is_tuple_of(spans, many):
        return False
    for start, span in zip(starts, spans):
        if not is_number_of(start, slots) or not is_within(span, 1, slots - start):
            return False
    return _are_frames(crossing(flow, split), slots, frames)


def _are_frames(nodes, slots, frames):
    if not is_tuple_of(frames, len(nodes)):
        return False
    taken = {}
    for node, frame in zip(nodes, frames):
        if not is_tuple_of(frame, 2) or frame[0] != node or not is_number_of(frame[1], slots):
            return False
        taken[frame[1]] = True
    return len(taken) == len(frames)


def frame_ticks(flow, split, bus, node, controller):
    """Return how many ticks the frame of a node takes for a controller to which it is foreign."""
    slot = slot_of(bus, node)
    ticks = wait_of(split, bus, node)
    if slot >= bus[2][controller]:
        ticks += 1
    return ticks - 1 if early(flow, node) else ticks


def slot_of(bus, node):
    """Return the slot of the frame of a node."""
    return [slot for each, slot in bus[4] if each == node][0]


def wait_of(split, bus, node):
    """Return 1 if the slot of a node goes by ahead of the end of its controller's work, else 0."""
    _, _, starts, spans, _ = bus
    owner = split[node]
    return 1 if slot_of(bus, node) < starts[owner] + spans[owner] else 0


def plain_bus(flow, split, spans):
    """Return the bus on which one controller works behind the other, each with its frames."""
    starts = []
    frames = []
    slot = 0
    nodes = crossing(flow, split)
    for controller, span in enumerate(spans):
        starts.append(slot)
        slot += span
        for node in nodes:
            if split[node] == controller:
                frames.append((node, slot))
                slot += 1
    if slot > MOST_SLOTS:
        raise TooLarge("bus")
    return ("bus", slot, tuple(starts), tuple(spans), tuple(sorted(frames)))
