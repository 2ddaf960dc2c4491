"""A slow judge of images and a slow machine, by the words of [35] and [36]; random images."""

import random

from keepsgoing.kinds import is_kind
from tests.flowjudge import Bad, want

OPERANDS = {"not": 1, "and": 2, "or": 2, "xor": 2, "eq": 2, "ne": 2, "lt": 2, "le": 2, "neg": 1, "add": 2,
            "sub": 2, "mul": 2, "div": 2, "min": 2, "max": 2, "mid": 3, "pick": 3, "vote": 3}
LENGTHS = {"put": 3, "copy": 3, "do": 5, "as": 5, "load": 6, "store": 6, "unless": 5, "skip": 2}


def judged(image):
    try:
        judge(image)
        return True
    except Bad:
        return False


def an_int(thing):
    want(type(thing) is int)


def within(thing, low, high):
    an_int(thing)
    want(low <= thing <= high)


def num(kind):
    want(is_kind(kind) and kind[0] == "num")


def judge(image):
    word, cells, kept, inputs, shown, code = image
    want(word == "image")
    within(len(cells), 1, 60000)
    within(len(code), 0, 20000000)
    within(kept, 0, len(cells))
    for content in cells:
        an_int(content)

    def cell(number, many=1):
        within(number, 0, len(cells) - many)

    def place(first, size):
        if size is not None:
            within(size, 1, 6)
        cell(first, 1 if size is None else size)
    for first, size, here in inputs:
        place(first, size)
        if here is not None:
            cell(here)
    for first, size, guards in shown:
        place(first, size)
        want(type(guards) is tuple)
        for guard, value in guards:
            cell(guard)
            an_int(value)
    for at, step in enumerate(code):
        judge_step(step, cell, len(code) - at - 1)


def judge_step(step, cell, left):
    want(len(step) > 0 and step[0] in LENGTHS and len(step) == LENGTHS[step[0]])
    word, *rest = step
    if word == "put":
        cell(rest[0])
        an_int(rest[1])
    elif word == "copy":
        cell(rest[0])
        cell(rest[1])
    elif word == "do":
        op, kind, to, operands = rest
        want(op in OPERANDS and len(operands) == OPERANDS[op])
        if op in ("neg", "add", "sub", "mul", "div"):
            num(kind)
        else:
            want(kind == ("bool",))
        for each in (to,) + operands:
            cell(each)
    elif word == "as":
        num(rest[0])
        within(rest[1], 1, 100)
        cell(rest[2])
        cell(rest[3])
    elif word in ("load", "store"):
        if word == "load":
            rest = rest[1:] + rest[:1]
        base, size, other, per, one = rest
        within(size, 1, 6)
        cell(base, size)
        cell(other)
        within(per, 1, 100)
        cell(one)
    elif word == "unless":
        cell(rest[0])
        an_int(rest[1])
        within(rest[2], 0, left)
        want(rest[3] is None or type(rest[3]) is int)
    else:
        within(rest[0], 0, left)


def fitted(kind, number):
    _, low, high, _, how = kind
    if how == "hold":
        return low if number < low else high if number > high else number
    while number < low or number > high:
        span = high - low + 1
        number += span * ((low - number + span - 1) // span if number < low else -((number - high + span - 1) // span))
    return number


def operated(op, kind, values):
    a, b, c = (list(values) + [None, None])[:3]
    if op == "not":
        return 1 if a == 0 else 0
    if op in ("and", "or", "xor"):
        x, y = a != 0, b != 0
        return int({"and": x and y, "or": x or y, "xor": x != y}[op])
    if op in ("eq", "ne", "lt", "le"):
        return int({"eq": a == b, "ne": a != b, "lt": a < b, "le": a <= b}[op])
    if op == "min":
        return a if a < b else b
    if op == "max":
        return a if a > b else b
    if op == "mid":
        return sorted(values)[1]
    if op == "pick":
        return c if a == 0 else b
    if op == "vote":
        return a if a == b else c
    per = kind[3]
    if op == "div" and b == 0:
        return kind[2] if a > 0 else kind[1] if a < 0 else fitted(kind, 0)
    return fitted(kind, {"neg": lambda: -a, "add": lambda: a + b, "sub": lambda: a - b,
                         "mul": lambda: a * b // per, "div": lambda: a * per // b}[op]())


class SlowMachine:
    def __init__(self, image):
        _, cells, self.kept, self.inputs, self.showing, self.code = image
        self.cells = list(cells)
        self.total = 0
        self.steps = 0

    def tick(self, row):
        for (cell, size, here), given in zip(self.inputs, row):
            if here is not None and given is None:
                self.cells[here] = 0
                continue
            for at, value in enumerate((given,) if size is None else given):
                self.cells[cell + at] = value
            if here is not None:
                self.cells[here] = 1
        at = self.steps = 0
        while at < len(self.code):
            self.steps += 1
            at += 1 + self.do(self.code[at])
        self.total += self.steps
        return tuple(self.shown(*each) for each in self.showing)

    def shown(self, cell, size, guards):
        if any(self.cells[guard] != value for guard, value in guards):
            return None
        return self.cells[cell] if size is None else tuple(self.cells[cell:cell + size])

    def do(self, step):
        cells = self.cells
        word, *rest = step
        if word == "put":
            cells[rest[0]] = rest[1]
        elif word == "copy":
            cells[rest[0]] = cells[rest[1]]
        elif word == "do":
            cells[rest[2]] = operated(rest[0], rest[1], [cells[each] for each in rest[3]])
        elif word == "as":
            cells[rest[2]] = fitted(rest[0], cells[rest[3]] * rest[0][3] // rest[1])
        elif word == "load":
            cell, base, size, other, per = rest
            i = cells[other] // per
            cells[cell] = cells[base + (0 if i < 0 else size - 1 if i >= size else i)]
        elif word == "store":
            base, size, other, per, cell = rest
            i = cells[other] // per
            if i in range(size):
                cells[base + i] = cells[cell]
        elif word == "unless":
            return 0 if cells[rest[0]] == rest[1] else rest[2]
        else:
            return rest[0]
        return 0


KINDS = [("num", 0, 5, 1, "wrap"), ("num", -3, 4, 2, "hold"), ("num", 2, 9, 3, "wrap"), ("num", -9, -2, 10, "hold"),
         ("num", -1000, 1000, 100, "wrap")]


def random_image(seed, many):
    """A right image with so many steps, of all words."""
    rng = random.Random(seed)
    cells = tuple(rng.choice([0, 1, -1, 3, rng.randint(-10 ** 6, 10 ** 6)]) for _ in range(20))
    one = lambda: rng.randrange(20)
    code = []
    for at in range(many):
        word = rng.choice(["put", "copy", "do", "do", "do", "do", "as", "load", "store", "unless", "unless", "skip"])
        left = min(many - at - 1, rng.randrange(6))
        size = rng.randint(1, 6)
        base = rng.randrange(21 - size)
        if word == "do":
            op = rng.choice(list(OPERANDS))
            kind = rng.choice(KINDS) if op in ("neg", "add", "sub", "mul", "div") else ("bool",)
            step = (op, kind, one(), tuple(one() for _ in range(OPERANDS[op])))
        else:
            step = {"put": lambda: (one(), rng.randint(-9, 9)), "copy": lambda: (one(), one()),
                    "as": lambda: (rng.choice(KINDS), rng.choice([1, 2, 100]), one(), one()),
                    "load": lambda: (one(), base, size, one(), rng.choice([1, 2, 100])),
                    "store": lambda: (base, size, one(), rng.choice([1, 2, 100]), one()),
                    "unless": lambda: (one(), rng.choice([0, 0, 1, 1, 3]), left, rng.choice([None, 5, -3])),
                    "skip": lambda: (left,)}[word]()
        code.append((word,) + step)
    inputs = ((one(), None, None), (rng.randrange(18), 3, None), (one(), None, one()), (rng.randrange(19), 2, one()))
    shown = tuple((one(), None, ()) for _ in range(3)) + (
        (rng.randrange(15), 6, ()), (one(), None, ((one(), 1),)), (rng.randrange(19), 2, ((one(), 0), (one(), 1))))
    return ("image", cells, rng.randrange(21), inputs, shown, tuple(code))


def image_rows(seed, many):
    rng = random.Random(seed)
    number = lambda: rng.choice([0, 1, -7, rng.randint(-10 ** 6, 10 ** 6)])
    return [(number(), (number(), number(), number()), rng.choice([None, number()]),
             rng.choice([None, (number(), number())])) for _ in range(many)]
