"""Phases: the bills of the ticks by the beats that tell the time, and the account of an image."""

from math import lcm

from keepsgoing.bills import bill, most_steps, passed_by


def period(flow):
    """Return the least common multiple of the n of the beats that are there at every tick."""
    many = 1
    for n, _ in _steady_beats(flow).values():
        many = lcm(many, n)
    return many


def phase_bills(flow, image):
    """Return the bills of the phases of an image of a flow.

    The code is cut where all ways come by. A piece hangs on few of the beats, so it is gone
    through for the phases of these alone; tables has what the pieces with one span need together.
    """
    code = image[5]
    beats = _steady_beats(flow)
    tables = {}
    for first, end, looks in _pieces(code, beats):
        needs = _needs(code, first, end, looks)
        table = tables.setdefault(len(needs), [0] * len(needs))
        for phase, many in enumerate(needs):
            table[phase] += many
    return tuple([_at_phase(tables, each) for each in range(period(flow))])


def _at_phase(tables, phase):
    return sum([table[phase % span] for span, table in tables.items()])


def account(flow, image):
    """Return the number of cells, of kept cells, the bill, and the bills of the phases."""
    _, cells, kept, _, _, code = image
    return (len(cells), kept, bill(code), phase_bills(flow, image))


def _steady_beats(flow):
    """Return a dict with the n and the k of each beat with the clock `()`."""
    return {number: node[3:] for number, node in enumerate(flow[2])
            if node[0] == "beat" and node[2] == ()}


def _pieces(code, beats):
    """Return pieces of a code, `(first, end, looks)`, that no step leads over the end of.

    Looks are the places of the steps that go on by one of the beats, each with its value and its
    beat. Pieces with looks are as short as can be, those between them have none.
    """
    found = []
    start = first = far = 0
    looks = []
    for at, step in enumerate(code):
        if step[0] == "unless" and step[4] in beats:
            looks.append((at, step[2], beats[step[4]]))
        far = max(far, at + 1 + passed_by(step))
        if far == at + 1:
            if looks:
                found.extend([(start, first, []), (first, far, looks)])
                start = far
                looks = []
            first = far
    found.append((start, len(code), []))
    return found


def _needs(code, first, end, looks):
    """Return the most steps through a piece, for each phase of the beats at which it looks."""
    beats = sorted(set([beat for _, _, beat in looks]))
    span = 1
    for n, _ in beats:
        span = lcm(span, n)
    known = {}
    needs = []
    for phase in range(span):
        truths = tuple([1 if phase % n == k else 0 for n, k in beats])
        if truths not in known:
            truth_of = dict(zip(beats, truths))
            told = {at: value == truth_of[beat] for at, value, beat in looks}
            known[truths] = most_steps(code, first, end, told)
        needs.append(known[truths])
    return needs
