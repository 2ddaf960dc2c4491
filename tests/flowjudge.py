"""A judge of flows that goes by the conditions of [24] one by one, for flows of the told shape."""

from keepsgoing.kinds import has, is_kind, values_of
from keepsgoing.ops import result_kind

BOOL = ("bool",)
SHAPES = {"input": 4, "here": 4, "const": 4, "when": 4, "merge": 5, "delay": 6, "beat": 5}
COUNTS = dict(zip("not and or xor eq ne lt le neg add sub mul div min max mid as pick vote at put "
                  "sum any all".split(), (1, 2, 2, 2, 2, 2, 2, 2, 1, 2, 2, 2, 2, 2, 2, 3, 1, 3, 3,
                                          2, 3, 1, 1, 1)))


class Bad(Exception):
    pass


def want(test):
    if not test:
        raise Bad


def judged(flow):
    try:
        judge(flow)
        return True
    except Bad:
        return False


def judge(flow):
    word, inputs, nodes, outputs, assumes, keeps = flow
    want(word == "flow" and 1 <= len(nodes) <= 2000 and len(inputs) <= 3000)
    names = [name for name, _, _ in inputs]
    shown = [name for name, _ in outputs + assumes + keeps]
    want(len(set(names)) == len(names) and len(set(shown)) == len(shown))
    for _, kind, event in inputs:
        want(is_kind(kind) and event in (0, 1, 2))
    for node in nodes:
        want(node[0] in SHAPES or node[0] in COUNTS or node[0] == "row")
        want(is_kind(node[1]))
        if node[0] in SHAPES:
            want(len(node) == SHAPES[node[0]])
        elif node[0] == "row":
            want(4 <= len(node) <= 9)
        else:
            want(len(node) == 3 + COUNTS[node[0]])
    for node in nodes:
        judge_clock(nodes, node[2])
    for node in nodes:
        judge_node(inputs, nodes, node)
    for _, node in outputs + assumes + keeps:
        number(nodes, node)
    for _, node in assumes + keeps:
        want(nodes[node][1] == BOOL)


def number(things, thing):
    want(type(thing) is int and 0 <= thing < len(things))


def judge_clock(nodes, clock):
    for place, (node, value) in enumerate(clock):
        number(nodes, node)
        want(nodes[node][2] == clock[:place])
        want(nodes[node][1] == BOOL or nodes[node][1][0] == "mode")
        want(value in values_of(nodes[node][1]))


def judge_node(inputs, nodes, node):
    word, kind, clock, *rest = node
    if word in ("input", "here"):
        number(inputs, rest[0])
        event = inputs[rest[0]][2]
        if word == "here":
            want(event == 1 and kind == BOOL and clock == ())
        else:
            want(kind == inputs[rest[0]][1])
            want(event != 0 or clock == ())
            if event == 1:
                want(len(clock) == 1 and clock[0][1] == 1)
                want(nodes[clock[0][0]] == ("here", BOOL, (), rest[0]))
    elif word == "const":
        want(has(kind, rest[0]))
    elif word == "when":
        number(nodes, rest[0])
        want(clock and nodes[rest[0]][1:3] == (kind, clock[:-1]))
    elif word == "merge":
        c, arms = rest
        number(nodes, c)
        want(nodes[c][2] == clock and nodes[c][1][0] in ("bool", "mode"))
        values = values_of(nodes[c][1])
        want(isinstance(arms, tuple) and len(arms) == len(values))
        for arm, value in zip(arms, values):
            number(nodes, arm)
            want(nodes[arm][1:3] == (kind, clock + ((c, value),)))
    elif word == "delay":
        first, a, resets = rest
        want(has(kind, first))
        number(nodes, a)
        want(nodes[a][1:3] == (kind, clock))
        want(isinstance(resets, tuple))
        for reset in resets:
            number(nodes, reset)
            want(nodes[reset][1] == BOOL)
            want(any(nodes[reset][2] == clock[:n] for n in range(len(clock) + 1)))
        want(list(resets) == sorted(set(resets)))
    elif word == "beat":
        n, k = rest
        want(kind == BOOL and type(n) is int and type(k) is int)
        want(1 <= n <= 12 and 0 <= k < n)
    else:
        for a in rest:
            number(nodes, a)
            want(nodes[a][2] == clock)
        want(result_kind(word, tuple(nodes[a][1] for a in rest), kind) == kind)
