"""Calls of the functions from bills on, each with the shape of its answer, for the tests of [2]."""

from keepsgoing.bills import bill, dear_way
from keepsgoing.boxes import alone, boxed, unit_by_unit
from keepsgoing.buses import frame_ticks, judge_bus, plain_bus
from keepsgoing.carrying import carried, carry_of, judge_carry
from keepsgoing.changing import ChangedRun, judge_pairs, kept_on, seen_change
from keepsgoing.deciding import decided, judge_closed, rows_of
from keepsgoing.family import family, greatest, surely_kept
from keepsgoing.healing import healing, judge_never
from keepsgoing.imageof import image_of
from keepsgoing.lags import judge_lags, least_lags
from keepsgoing.machine import Machine
from keepsgoing.make import made, verdict
from keepsgoing.orders import order_of
from keepsgoing.parts import parts_of
from keepsgoing.phases import account, period, phase_bills
from keepsgoing.reading import read_program
from keepsgoing.sayings import judge_sayings
from keepsgoing.seats import seats_of
from keepsgoing.splitruns import LossyRun, SplitRun
from keepsgoing.splits import crossing, early, foreign
from keepsgoing.touching import gone, touched
from keepsgoing.tripling import tripled
from tests.changedflows import random_change
from tests.randomflows import random_flow, random_rows
from tests.randomsplits import ordered_split
from tests.smallflows import all_rows, small_flow
from tests.test_boxes import SAMPLED, STEP


def later_calls():
    """Calls with plain answers, and calls of judges."""
    plain, bools = [], []
    for more in (bill_calls, bus_calls, contract_calls, fault_calls, change_calls, text_calls):
        some, others = more()
        plain.extend(some)
        bools.extend(others)
    return plain, bools


def bill_calls():
    flow = random_flow(7, 40)
    order = order_of(flow)
    image = image_of(flow, order, seats_of(flow, order))
    return [lambda: bill(image[5]), lambda: dear_way(image[5]), lambda: dear_way(()), lambda: period(flow),
            lambda: phase_bills(flow, image), lambda: account(flow, image)], []


def bus_calls():
    flow, split = next((made, split) for made, split in (
        (random_flow(seed, 20), ordered_split(seed, random_flow(seed, 20), 3)) for seed in range(50))
        if split is not None and crossing(made, split))
    bus = plain_bus(flow, split, (1, 2, 3))
    node = crossing(flow, split)[0]
    other = next(q for q in range(3) if node in foreign(flow, split, q))
    rows = random_rows(1, 6)
    lags = least_lags(flow, split, bus)
    plain = [
        lambda: foreign(flow, split, 1), lambda: crossing(flow, split), lambda: bus,
        lambda: frame_ticks(flow, split, bus, node, other), lambda: plain_bus(flow, split, (20, 20, 21)),
        lambda: least_lags(flow, split, bus), lambda: parts_of(flow, split),
        lambda: tuple(SplitRun(flow, split, bus, lags).ticks(rows)),
        lambda: tuple(LossyRun(flow, split, bus, lags, ((1, node),)).ticks(rows))]
    return plain, [
        lambda: early(flow, 3), lambda: judge_bus(flow, split, bus), lambda: judge_bus(flow, split, bus[:4] + ((),)),
        lambda: judge_lags(flow, split, bus, lags), lambda: judge_lags(flow, split, bus, ())]


def contract_calls():
    plain, bools = [], []
    for seed in (1, 2, 3, 5, 8):
        flow = small_flow(seed)
        for call in ((lambda flow=flow: rows_of(flow)), (lambda flow=flow: decided(flow, 1000)),
                     (lambda flow=flow: decided(flow, 1))):
            plain.append(call)
        bools.append(lambda flow=flow: judge_closed(flow, ()))
        bools.append(lambda flow=flow: judge_closed(flow, decided(flow, 1000)[1]))
        for call in ((lambda flow=flow: family(flow)), (lambda flow=flow: greatest(flow))):
            plain.append(call)
        bools.append(lambda flow=flow: surely_kept(flow))
        bools.append(lambda flow=flow: judge_sayings(flow, 2, greatest(flow)))
        bools.append(lambda flow=flow: judge_sayings(flow, 1, (("same", 1, 0),)))
    plain.append(lambda: rows_of(random_flow(1, 20)))
    return plain, bools


def fault_calls():
    plain, bools = [], []
    for seed in (1, 2, 3):
        flow = random_flow(seed, 30)
        for call in ((lambda flow=flow: touched(flow, (1, 5), (0,), 4)), (lambda flow=flow: gone(flow, (0,))),
                     (lambda flow=flow: touched(flow, (1,), (), 4, lasts=True)), (lambda flow=flow: tripled(flow))):
            plain.append(call)
        small = small_flow(seed)
        plain.append(lambda small=small: healing(small, 100000))
        plain.append(lambda small=small: healing(small, 2))
        bools.append(lambda small=small: judge_never(small, healing(small, 100000)))
        bools.append(lambda small=small: judge_never(small, ("never", (), 0, 1, (), ())))
    return plain, bools


def change_calls():
    plain, bools = [], []
    for seed in (1, 2, 3, 4, 5, 6):
        old, new, paper = random_change(seed)
        change = (old, new, paper)
        rows = all_rows(old) * 3
        state = decided(old, 1000)[1][0] if decided(old, 1000)[0] == "kept" else None
        for call in ((lambda change=change: seen_change(*change, 1000)), (lambda change=change: kept_on(*change, 1000)),
                     (lambda change=change: seen_change(*change, 1)), (lambda old=old, new=new: carry_of(old, new)),
                     (lambda change=change, rows=rows: tuple(ChangedRun(*change, 2).ticks(rows)))):
            plain.append(call)
        if state is not None:
            plain.append(lambda change=change, state=state: carried(*change, state))
        bools.append(lambda change=change: judge_carry(*change))
        bools.append(lambda change=change: judge_carry(change[0], change[1], ()))
        bools.append(lambda change=change: judge_pairs(*change, seen_change(*change, 1000)[1]))
        bools.append(lambda change=change: judge_pairs(*change, ()))
    return plain, bools


def text_calls():
    text = STEP + """unit main(p: bool, q: bool) gives (x: bool, m: lv) { use x, m = step(p and q, 2); assume p or q;
        keep x == p or q; }"""
    program = read_program(text)
    other = read_program(SAMPLED)
    plain = [
        lambda: alone(program, "step"), lambda: boxed(program), lambda: boxed(other),
        lambda: unit_by_unit(program, 1000), lambda: unit_by_unit(program, 1), lambda: unit_by_unit(other, 1000),
        lambda: made(text), lambda: made(text, improve=0, share=0), lambda: made(text[:-2]), lambda: verdict(text, 100),
        lambda: verdict(text, 0), lambda: tuple(Machine.of(made(text)).ticks([(1, 1), (0, 1), (1, 0)]))]
    return plain, []
