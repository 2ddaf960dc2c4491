"""The examples in the README print what is told beside them."""

import contextlib
import io
import pathlib
import re
import unittest

README = pathlib.Path(__file__).resolve().parent.parent / "README.md"


class Readme(unittest.TestCase):
    def test_examples(self):
        code = "\n".join(re.findall(r"```python\n(.*?)```", README.read_text(), re.S))
        out = io.StringIO()
        with contextlib.redirect_stdout(out):
            exec(code, {})
        told = [line.split("#")[-1].strip() for line in code.splitlines() if line.startswith("print(")]
        printed = out.getvalue().splitlines()
        self.assertEqual(len(printed), len(told))
        for got, wanted in zip(printed, told):
            self.assertTrue(wanted.startswith(got), (got, wanted))


if __name__ == "__main__":
    unittest.main()
