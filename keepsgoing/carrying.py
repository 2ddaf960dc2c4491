"""Carry papers: which contents a new flow takes over from an old one."""

from keepsgoing.alike import alike
from keepsgoing.errors import TooLarge
from keepsgoing.flows import MOST_NODES, memory_of
from keepsgoing.nodework import beginning_of
from keepsgoing.renumbering import renumbered
from keepsgoing.shapes import is_number_of, is_tuple_of


def judge_carry(old, new, paper):
    """Tell whether each content that is taken over is of the same form."""
    given = [old[2][node] for node in memory_of(old)]
    taking = [new[2][node] for node in memory_of(new)]
    if not is_tuple_of(paper, len(taking)):
        return False
    for node, cell in zip(taking, paper):
        if cell is not None:
            if not is_number_of(cell, len(given)) or _form(node) != _form(given[cell]):
                return False
    return True


def _form(node):
    """Return the word of a delay and its kind, or that of a beat and its n."""
    return (node[0], node[1] if node[0] == "delay" else node[3])


def carried(old, new, paper, state):
    """Return the carried state of a state of the old flow, by a paper that is taken."""
    begun = beginning_of(new)
    return tuple([first if cell is None else state[cell] for first, cell in zip(begun, paper)])


def carry_of(old, new):
    """Return the paper by which each cell takes over the content of its least twin."""
    shift = len(old[2])
    if shift + len(new[2]) > MOST_NODES:
        raise TooLarge("flow")
    numbers = [shift + number for number in range(len(new[2]))]
    nodes = old[2] + tuple([renumbered(node, numbers) for node in new[2]])
    leaders = alike(("flow", old[1], nodes, (), (), ()))
    twins = {}
    for cell, node in enumerate(memory_of(old)):
        twins.setdefault(leaders[node], cell)
    return tuple([twins.get(leaders[shift + node]) for node in memory_of(new)])
