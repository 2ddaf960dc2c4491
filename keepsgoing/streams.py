"""A stream of tokens that is read from its first one on."""

from keepsgoing.errors import BadText
from keepsgoing.tokens import tokens_of
from keepsgoing.words import is_base_name, is_number


def read_name(stream):
    """Take a NAME and return it."""
    return stream.want_name()


class TokenStream:
    """The tokens of a text, and how many of them have been taken."""

    def __init__(self, text):
        self.tokens = tokens_of(text)
        self.at = 0

    def ahead(self, steps=0):
        """Return the next token, or one behind it; the empty string behind the last one."""
        place = self.at + steps
        return self.tokens[place] if place < len(self.tokens) else ""

    def take(self):
        """Take the next token and return it."""
        token = self.ahead()
        self.at += 1
        return token

    def takes(self, token):
        """Take the next token if it is this one, and tell whether it was."""
        if self.ahead() != token:
            return False
        self.at += 1
        return True

    def want(self, token):
        """Take the next token, which must be this one."""
        if not self.takes(token):
            raise BadText(self.at)

    def want_one_of(self, tokens):
        """Take the next token, which must be one of these, and return it."""
        if self.ahead() not in tokens:
            raise BadText(self.at)
        return self.take()

    def want_name(self):
        """Take the next token, which must be a NAME, and return it."""
        if not is_base_name(self.ahead()):
            raise BadText(self.at)
        return self.take()

    def want_number(self):
        """Take the next token, which must be a NUMBER, and return what it means."""
        if not is_number(self.ahead()):
            raise BadText(self.at)
        return int(self.take())

    def want_some(self, read):
        """Take one or more things, separated by commas, with a function that takes one."""
        found = [read(self)]
        while self.takes(","):
            found.append(read(self))
        return tuple(found)

    def want_end(self):
        """All tokens must have been taken."""
        if self.at < len(self.tokens):
            raise BadText(self.at)
