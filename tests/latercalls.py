"""Calls of the functions from bills on, each with the shape of its answer, for the tests of [2]."""

from keepsgoing.bills import bill, dear_way
from keepsgoing.buses import frame_ticks, judge_bus, plain_bus
from keepsgoing.deciding import decided, judge_closed, rows_of
from keepsgoing.imageof import image_of
from keepsgoing.lags import judge_lags, least_lags
from keepsgoing.orders import order_of
from keepsgoing.parts import parts_of
from keepsgoing.phases import account, period, phase_bills
from keepsgoing.seats import seats_of
from keepsgoing.splitruns import LossyRun, SplitRun
from keepsgoing.splits import crossing, early, foreign
from tests.randomflows import random_flow, random_rows
from tests.randomsplits import ordered_split
from tests.smallflows import small_flow


def later_calls():
    """Calls with plain answers, and calls of judges."""
    plain, bools = [], []
    for more in (bill_calls, bus_calls, contract_calls):
        some, others = more()
        plain.extend(some)
        bools.extend(others)
    return plain, bools


def bill_calls():
    flow = random_flow(7, 40)
    order = order_of(flow)
    image = image_of(flow, order, seats_of(flow, order))
    return [lambda: bill(image[5]), lambda: dear_way(image[5]), lambda: dear_way(()), lambda: period(flow),
            lambda: phase_bills(flow, image), lambda: account(flow, image)], []


def bus_calls():
    flow, split = next((made, split) for made, split in (
        (random_flow(seed, 20), ordered_split(seed, random_flow(seed, 20), 3)) for seed in range(50))
        if split is not None and crossing(made, split))
    bus = plain_bus(flow, split, (1, 2, 3))
    node = crossing(flow, split)[0]
    other = next(q for q in range(3) if node in foreign(flow, split, q))
    rows = random_rows(1, 6)
    lags = least_lags(flow, split, bus)
    plain = [
        lambda: foreign(flow, split, 1), lambda: crossing(flow, split), lambda: bus,
        lambda: frame_ticks(flow, split, bus, node, other), lambda: plain_bus(flow, split, (20, 20, 21)),
        lambda: least_lags(flow, split, bus), lambda: parts_of(flow, split),
        lambda: tuple(SplitRun(flow, split, bus, lags).ticks(rows)),
        lambda: tuple(LossyRun(flow, split, bus, lags, ((1, node),)).ticks(rows))]
    return plain, [
        lambda: early(flow, 3), lambda: judge_bus(flow, split, bus), lambda: judge_bus(flow, split, bus[:4] + ((),)),
        lambda: judge_lags(flow, split, bus, lags), lambda: judge_lags(flow, split, bus, ())]


def contract_calls():
    plain, bools = [], []
    for seed in (1, 2, 3, 5, 8):
        flow = small_flow(seed)
        for call in ((lambda flow=flow: rows_of(flow)), (lambda flow=flow: decided(flow, 1000)),
                     (lambda flow=flow: decided(flow, 1))):
            plain.append(call)
        bools.append(lambda flow=flow: judge_closed(flow, ()))
        bools.append(lambda flow=flow: judge_closed(flow, decided(flow, 1000)[1]))
    plain.append(lambda: rows_of(random_flow(1, 20)))
    return plain, bools
