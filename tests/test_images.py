import random
import unittest

from keepsgoing.images import is_image
from tests.slowmachine import judged, random_image

BOOL = ("bool",)
NUM = ("num", 0, 5, 1, "wrap")
CODE = (
    ("put", 0, 7), ("copy", 1, 2), ("do", "add", NUM, 3, (4, 5)), ("do", "not", BOOL, 0, (1,)),
    ("do", "pick", BOOL, 0, (1, 2, 3)), ("as", NUM, 100, 2, 3), ("load", 0, 4, 6, 1, 100),
    ("store", 4, 6, 0, 1, 9), ("unless", 9, -5, 2, None), ("unless", 0, 5, 1, 12), ("skip", 0))
IMAGE = ("image", (0, 1, 2, 3, 4, 5, 6, 7, 8, 1000000), 3,
         ((0, None, None), (4, 6, None), (9, None, 8), (8, 2, 0)),
         ((9, None, ()), (4, 6, ((0, 1), (9, -1000000))), (9, 1, ((3, 3),))), CODE)


def changed(thing, path, new):
    if not path:
        return new
    return thing[:path[0]] + (changed(thing[path[0]], path[1:], new),) + thing[path[0] + 1:]


def paths(thing, path=()):
    yield path, thing
    if isinstance(thing, tuple):
        for at, part in enumerate(thing):
            yield from paths(part, path + (at,))


class Judge(unittest.TestCase):
    def judge(self, image, wanted):
        self.assertIs(is_image(image), wanted)
        self.assertIs(judged(image), wanted)

    def step(self, step, wanted, behind=0):
        """The judge of an image with 10 cells and this step, so many steps from the end."""
        self.judge(IMAGE[:5] + ((step,) + (("skip", 0),) * behind,), wanted)

    def test_right_ones(self):
        self.judge(IMAGE, True)
        self.judge(("image", (5,), 0, (), (), ()), True)
        self.judge(("image", (5,), 1, (), (), ()), True)
        for seed in range(40):
            self.judge(random_image(seed, 50), True)

    def test_each_part_spoilt(self):
        """Each number and word is exchanged for others, one at a time."""
        wrong = 0
        for path, thing in list(paths(IMAGE)):
            if isinstance(thing, tuple) or thing is None and path[0] != 5:
                continue
            if isinstance(thing, str):
                news = ["", "put", "copy", "add", "sum", "row", "bool", "num", "hold", "image", "x"]
            else:
                news = [-1, 0, 1, 2, 6, 7, 9, 10, 11, 100, 101, 1000, 1001, 1000000, -1000000, None]
            for new in news:
                image = changed(IMAGE, path, new)
                told = judged(image)
                self.assertIs(is_image(image), told, (path, new))
                wrong += not told
        self.assertGreater(wrong, 400)

    def test_each_length_spoilt(self):
        for path, thing in list(paths(IMAGE)):
            if not isinstance(thing, tuple) or path == ():
                continue
            if path[0] in (3, 4) and len(path) in (2, 4):
                continue
            for new in (thing[:-1], thing + (0,), thing + thing[-1:], ()):
                if path[0] in (3, 4) and len(path) == 1 and new == thing + (0,):
                    continue
                if path[0] == 5 and len(path) == 1 and new == thing + (0,):
                    continue
                if path[0] == 4 and len(path) == 3 and new == thing + (0,):
                    continue
                image = changed(IMAGE, path, new)
                self.assertIs(is_image(image), judged(image), (path, new))

    def test_cells_exist(self):
        for good, bad in ((("put", 9, 0), ("put", 10, 0)), (("copy", 9, 9), ("copy", 9, 10)),
                          (("copy", 0, 0), ("copy", -1, 0)), (("put", 0, 0), ("put", -1, 0)),
                          (("load", 0, 4, 6, 1, 1), ("load", 0, 5, 6, 1, 1)),
                          (("load", 0, 9, 1, 1, 1), ("load", 0, 10, 1, 1, 1)),
                          (("store", 4, 6, 0, 1, 0), ("store", 5, 6, 0, 1, 0)),
                          (("store", 4, 6, 0, 1, 9), ("store", 4, 6, 0, 1, 10)),
                          (("load", 9, 4, 6, 9, 1), ("load", 9, 4, 6, 10, 1)),
                          (("as", NUM, 1, 9, 9), ("as", NUM, 1, 9, 10)), (("unless", 9, 0, 0, 0), ("unless", 10, 0, 0, 0)),
                          (("do", "eq", BOOL, 9, (9, 9)), ("do", "eq", BOOL, 9, (9, 10)))):
            self.step(good, True)
            self.step(bad, False)

    def test_bounds(self):
        for size in (1, 6):
            self.step(("load", 0, 0, size, 1, 1), True)
            self.step(("store", 0, size, 1, 1, 0), True)
        for size in (0, 7, -1):
            self.step(("load", 0, 0, size, 1, 1), False)
            self.step(("store", 0, size, 1, 1, 0), False)
        for per in (1, 100):
            self.step(("as", NUM, per, 0, 0), True)
            self.step(("load", 0, 0, 2, 1, per), True)
            self.step(("store", 0, 2, 1, per, 0), True)
        for per in (0, 101, -1):
            self.step(("as", NUM, per, 0, 0), False)
            self.step(("load", 0, 0, 2, 1, per), False)
            self.step(("store", 0, 2, 1, per, 0), False)
        for behind in range(3):
            self.step(("skip", behind), True, behind)
            self.step(("skip", behind + 1), False, behind)
            self.step(("unless", 0, 0, behind, None), True, behind)
            self.step(("unless", 0, 0, behind + 1, None), False, behind)
        self.step(("skip", -1), False, 3)
        self.step(("unless", 0, 0, -1, None), False, 3)

    def test_operations(self):
        counts = dict(zip("not and or xor eq ne lt le neg add sub mul div min max mid pick vote".split(),
                          (1, 2, 2, 2, 2, 2, 2, 2, 1, 2, 2, 2, 2, 2, 2, 3, 3, 3)))
        for op, count in counts.items():
            fitted = op in ("neg", "add", "sub", "mul", "div")
            for kind in (BOOL, NUM, ("mode", ("a",)), ("row", BOOL, 2), ("num", 3, 2, 1, "wrap"), ("bool", 1)):
                for many in range(5):
                    good = many == count and kind == (NUM if fitted else BOOL)
                    self.step(("do", op, kind, 0, (1,) * many), good)
        for op in ("as", "row", "at", "put", "sum", "any", "all", "", "do", "AND"):
            for kind in (BOOL, NUM):
                for many in range(1, 4):
                    self.step(("do", op, kind, 0, (1,) * many), False)
        for kind in (BOOL, ("mode", ("a",)), ("row", NUM, 2), ("num", 0, 5, 0, "wrap")):
            self.step(("as", kind, 1, 0, 0), False)

    def test_many_cells_and_kept(self):
        self.judge(("image", (0,) * 60000, 60000, (), (), ()), True)
        self.judge(("image", (0,) * 60001, 0, (), (), ()), False)
        self.judge(("image", (), 0, (), (), ()), False)
        self.judge(("image", (0, 0), 2, (), (), ()), True)
        self.judge(("image", (0, 0), 3, (), (), ()), False)
        self.judge(("image", (0, 0), -1, (), (), ()), False)

    def test_many_steps(self):
        self.assertIs(is_image(("image", (0,), 0, (), (), (("skip", 0),) * 20000001)), False)
        self.assertIs(is_image(("image", (0,), 0, (), (), (("skip", 0),) * 20000000)), True)
        self.assertIs(is_image(("image", (0,), 0, (), (), (("skip", 0),) * 100000)), True)

    def test_words_and_lengths(self):
        for image in ((), ("image",), ("flow",) + IMAGE[1:], IMAGE + ((),), IMAGE[:5]):
            self.assertIs(is_image(image), False)
        for step in ((), ("put",), ("skip", 0, 0), ("go", 1), ("unless", 0, 0, 0), ("load", 0, 0, 1, 1)):
            self.step(step, False)

    def test_random_changes(self):
        rng = random.Random(9)
        wrong = 0
        for seed in range(60):
            image = random_image(seed, 12)
            numbers = [path for path, thing in paths(image) if type(thing) is int]
            for _ in range(25):
                made = image
                for _ in range(rng.choice([1, 1, 2])):
                    made = changed(made, rng.choice(numbers), rng.choice([-1, 0, 1, 5, 6, 7, 19, 20, 21, 100, 101]))
                wrong += not judged(made)
                self.assertIs(is_image(made), judged(made))
        self.assertGreater(wrong, 200)


if __name__ == "__main__":
    unittest.main()
