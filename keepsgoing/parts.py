"""Parts: the flows that the controllers of a split run."""

from keepsgoing.flows import LOOSE
from keepsgoing.renumbering import renumbered
from keepsgoing.splits import controllers, foreign


def parts_of(flow, split):
    """Return the parts of a split, one for each controller."""
    return tuple([_part_of(flow, split, each) for each in range(controllers(split))])


def _part_of(flow, split, controller):
    word, inputs, nodes, outputs, assumes, keeps = flow
    coming = foreign(flow, split, controller)
    given = [(f"node@{node}", nodes[node][1], LOOSE) for node in coming]
    sources = {node: len(inputs) + at for at, node in enumerate(coming)}
    numbers = part_numbers(flow, split, controller)
    made = []
    for node in numbers:
        told = nodes[node]
        if node in sources:
            told = ("input", told[1], told[2], sources[node])
        made.append(renumbered(told, numbers))
    shown = [tuple([(name, numbers[node]) for name, node in each if split[node] == controller])
             for each in (outputs, assumes, keeps)]
    return (word, inputs + tuple(given), tuple(made), shown[0], shown[1], shown[2])


def part_numbers(flow, split, controller):
    """Return a dict with the number in the part of each node that is its own or foreign."""
    coming = {node: True for node in foreign(flow, split, controller)}
    held = [node for node in range(len(flow[2])) if split[node] == controller or node in coming]
    return {node: number for number, node in enumerate(held)}
