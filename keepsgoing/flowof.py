"""From a flat program to its flow."""

from keepsgoing.clocksof import part_clocks
from keepsgoing.exprparts import listed
from keepsgoing.flathangs import Hanging, input_clocks
from keepsgoing.flatknots import KnotLook
from keepsgoing.flowmaking import FlowMaking
from keepsgoing.flowparts import Site, node_of_part
from keepsgoing.flows import EVENT, LOOSE
from keepsgoing.kinds import BOOL
from keepsgoing.kindsof import part_kinds


def flow_of(flat):
    """Return the flow of a flat program that is let."""
    _, inputs, _, outputs, assumes, keeps = flat
    work = FlowWriting(flat)
    work.number_all()
    work.make_inputs()
    work.make_parts()
    given = [(name, kind, event if event in (0, EVENT) else LOOSE) for name, kind, event in inputs]
    shown = [tuple([(name, work.making.node_of[name]) for name in names])
             for names in (outputs, assumes, keeps)]
    return ("flow", tuple(given), tuple(work.making.nodes), shown[0], shown[1], shown[2])


class FlowWriting:
    """The flow of a flat program, as far as it is made."""

    def __init__(self, flat):
        self.flat = flat
        self.making = FlowMaking()
        self.parts = [listed(equation[4]) for equation in flat[2]]
        self.clocks = part_clocks(flat)
        self.kinds = part_kinds(flat)
        self.own_clocks = [clocks[-1] for clocks in self.clocks]
        self.same = self._equal_parts()
        self.numbers = []

    def number_all(self):
        """Give a node to each input and to each part that is no name, then the names theirs."""
        making = self.making
        for name, _, event in self.flat[1]:
            making.node_of[name] = making.new()
            if event == EVENT:
                making.node_of[name + "@here"] = making.new()
        for at, parts in enumerate(self.parts):
            numbers = []
            self.numbers.append(numbers)
            for place, (part, _) in enumerate(parts):
                if (at, place) in self.same:
                    other, there = self.same[(at, place)]
                    numbers.append(self.numbers[other][there])
                else:
                    numbers.append(None if part[0] == "name" else making.new())
        self._tell_names()

    def _equal_parts(self):
        """Return the places of entering parts with that of the first one that is equal to them.

        In a knot equal parts must be one node, or it would have to settle for unlike truths.
        """
        same = {}
        for knot in Hanging(self.flat, self.own_clocks).knots():
            look = KnotLook([self.flat[2][at][0] for at in knot])
            for at in knot:
                look.takes(self.flat[2][at][4])
            firsts = {}
            for equation, place, number in look.places:
                here = (knot[equation], place)
                if number in firsts:
                    same[here] = firsts[number]
                else:
                    firsts[number] = here
        return same

    def _tell_names(self):
        roots = {equation[0]: equation[4] for equation in self.flat[2]}
        for at, equation in enumerate(self.flat[2]):
            if self.numbers[at][-1] is not None:
                self.making.node_of[equation[0]] = self.numbers[at][-1]
        for name in roots:
            # A name that is another name has the node of that one.
            end = name
            while end not in self.making.node_of:
                end = roots[end][1]
            self.making.node_of[name] = self.making.node_of[end]
        for parts, numbers in zip(self.parts, self.numbers):
            for place, (part, _) in enumerate(parts):
                if part[0] == "name":
                    numbers[place] = self.making.node_of[part[1]]

    def make_inputs(self):
        """Make the nodes of the inputs."""
        making = self.making
        told = input_clocks(self.flat, self.own_clocks)
        for number, (name, kind, event) in enumerate(self.flat[1]):
            if event == EVENT:
                making.nodes[making.node_of[name + "@here"]] = ("here", BOOL, (), number)
            clock = making.clock_of(told[name])
            making.nodes[making.node_of[name]] = ("input", kind, clock, number)

    def make_parts(self):
        """Make the nodes of the parts."""
        for at, parts in enumerate(self.parts):
            for place, (part, inner) in enumerate(parts):
                if part[0] != "name" and (at, place) not in self.same:
                    number = self.numbers[at][place]
                    numbers = [self.numbers[at][each] for each in inner]
                    clock = self.making.clock_of(self.clocks[at][place])
                    site = Site(part, number, numbers, self.kinds[at][place], clock)
                    self.making.nodes[number] = node_of_part(self.making, site)
