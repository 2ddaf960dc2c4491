import unittest

from keepsgoing.tokens import tokens_of
from tests.texts import FORMS


class Tokens(unittest.TestCase):
    def same(self, text, *tokens):
        self.assertEqual(tokens_of(text), tokens)

    def test_nothing(self):
        self.same("")
        self.same(" \n  \n")

    def test_runs(self):
        self.same("abc Abc a1B2 2b 007 1001 0", "abc", "Abc", "a1B2", "2b", "007", "1001", "0")
        self.same("\n abc\n\n", "abc")
        self.same("thena", "thena")
        self.same("a" * 50 + "9" * 6000, "a" * 50 + "9" * 6000)

    def test_longest_sign_at_each_place(self):
        self.same("a==b", "a", "==", "b")
        self.same("a===b", "a", "==", "=", "b")
        self.same("====", "==", "==")
        self.same("a!=b!c", "a", "!=", "b", "!", "c")
        self.same("<=<<==", "<=", "<", "<=", "=")
        self.same("=<", "=", "<")
        self.same("!==", "!=", "=")
        self.same("0..5", "0", "..", "5")
        self.same("a...b....", "a", "..", ".", "b", "..", "..")
        self.same("{}(),;:.+-*/=<", *"{}(),;:.+-*/=<")
        self.same("--5", "-", "-", "5")
        self.same(". .", ".", ".")
        self.same("= =", "=", "=")

    def test_other_characters(self):
        self.same("!\"#$%&'>?@[\\]^_`|~", *"!\"#$%&'>?@[\\]^_`|~")
        self.same("a_b", "a", "_", "b")
        self.same(">=", ">", "=")

    def test_every_character(self):
        for char in (chr(code) for code in range(33, 127)):
            self.same(char, char)
            self.same(f"a {char}\nb", "a", char, "b")

    def test_blanks_mean_nothing(self):
        tokens = tokens_of(FORMS)
        self.assertEqual(tokens_of("  \n ".join(tokens)), tokens)
        self.assertEqual(tokens_of(FORMS), tokens)


if __name__ == "__main__":
    unittest.main()
