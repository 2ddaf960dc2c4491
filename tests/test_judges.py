"""Judges answer False and raise no error for wrong numbers, words and lengths: [2]."""

import random
import unittest

from keepsgoing.alike import alike
from keepsgoing.buses import judge_bus, plain_bus
from keepsgoing.carrying import judge_carry
from keepsgoing.changing import judge_pairs, seen_change
from keepsgoing.classes import judge_classes
from keepsgoing.deciding import decided, judge_closed
from keepsgoing.family import greatest
from keepsgoing.flows import is_flow
from keepsgoing.healing import healing, judge_never
from keepsgoing.imageof import image_of
from keepsgoing.images import is_image
from keepsgoing.kinds import is_kind
from keepsgoing.lags import judge_lags, least_lags
from keepsgoing.orders import judge_order, order_of
from keepsgoing.sayings import judge_sayings
from keepsgoing.seats import judge_seats, seats_of
from keepsgoing.splits import crossing
from keepsgoing.steady import judge_steady, steady
from tests.changedflows import random_change
from tests.randomflows import random_flow
from tests.randomsplits import ordered_split
from tests.smallflows import small_flow

NUMBERS = (0, 1, 2, 3, -1, -2, 7, 12, 61, 1000000, -1000000)
WORDS = ("", "num", "bool", "never", "least", "if", "node", "wrap")


def changed(rng, paper):
    """The paper with one number, word or length changed somewhere in it."""
    if isinstance(paper, int) or paper is None:
        return rng.choice(NUMBERS)
    if isinstance(paper, str):
        return rng.choice(WORDS)
    form = rng.random()
    if not paper or form < 0.1:
        return paper[:rng.randint(0, len(paper))] if form < 0.05 else paper + paper[:1]
    at = rng.randrange(len(paper))
    if form < 0.2:
        other = rng.randrange(len(paper))
        parts = list(paper)
        parts[at], parts[other] = parts[other], parts[at]
        return tuple(parts)
    return paper[:at] + (changed(rng, paper[at]),) + paper[at + 1:]


def judges():
    """Judges with papers that they take."""
    for seed in range(12):
        flow = random_flow(seed, 10 + seed)
        order = order_of(flow)
        yield is_flow, (), flow
        yield is_kind, (), flow[2][seed % 10][1]
        yield is_image, (), image_of(flow, order, seats_of(flow, order))
        yield judge_order, (flow,), order
        yield judge_seats, (flow, order), seats_of(flow, order)
        yield judge_classes, (flow,), alike(flow)
        yield judge_steady, (flow,), steady(flow)
    for seed in range(60):
        flow = random_flow(seed, 12)
        split = ordered_split(seed, flow, 2)
        if split is not None and crossing(flow, split):
            bus = plain_bus(flow, split, (2, 3))
            yield judge_bus, (flow, split), bus
            if all(split[node] == 0 for node in crossing(flow, split)):
                yield judge_lags, (flow, split, bus), least_lags(flow, split, bus)
    for seed in range(60):
        flow = small_flow(seed)
        told = decided(flow, 1000)
        if told[0] == "kept":
            yield judge_closed, (flow,), told[1]
            yield judge_sayings, (flow, 1 + seed % 3), (("among", told[1]),) + greatest(flow)
        answer = healing(flow, 10 ** 6)
        if answer[0] == "never":
            yield judge_never, (flow,), answer
    for seed in range(60):
        old, new, paper = random_change(seed)
        yield judge_carry, (old, new), paper
        told = seen_change(old, new, paper, 10 ** 6)
        if told[0] == "never":
            yield judge_pairs, (old, new, paper), told[1]


class Judges(unittest.TestCase):
    def test_changed_papers(self):
        rng = random.Random(2)
        counts = {}
        for judge, ahead, paper in judges():
            self.assertIs(judge(*ahead, paper), True, (judge, paper))
            taken, left = counts.get(judge.__name__, (0, 0))
            for _ in range(60):
                other = paper
                for _ in range(rng.choice([1, 1, 2, 5])):
                    other = changed(rng, other)
                answer = judge(*ahead, other)
                self.assertIs(type(answer), bool)
                taken, left = taken + answer, left + (not answer)
            counts[judge.__name__] = (taken, left)
        for name, (_, left) in counts.items():
            self.assertGreater(left, 50, name)


if __name__ == "__main__":
    unittest.main()
