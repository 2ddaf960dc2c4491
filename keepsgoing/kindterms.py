"""Kinds of which not all is known, as terms that are made equal."""

from keepsgoing.kinds import is_row

ANY = ("any",)
PLAIN = ("plain",)


class KindTerms:
    """Terms numbered from 0; each one leads to the one that stands for all that are equal.

    What is known of a term is `("any",)`, `("plain",)` for all kinds but rows,
    `("number", low, high)` for a num that has these two integers, `("told", kind)` for a plain
    kind, or `("line", term, size)` for a row, where the size can be None.
    """

    def __init__(self):
        self.leads = []
        self.known = []

    def new(self, known):
        """Return a new term."""
        self.leads.append(len(self.leads))
        self.known.append(known)
        return len(self.leads) - 1

    def new_told(self, kind):
        """Return a new term for a kind."""
        if is_row(kind):
            return self.new(("line", self.new_told(kind[1]), kind[2]))
        return self.new(("told", kind))

    def leader(self, term):
        """Return the term that stands for all that are equal to this one."""
        end = term
        while self.leads[end] != end:
            end = self.leads[end]
        while self.leads[term] != end:
            self.leads[term], term = end, self.leads[term]
        return end

    def make_equal(self, term, other):
        """Make two terms equal, and tell whether they can be."""
        one, two = self.leader(term), self.leader(other)
        if one == two:
            return True
        known, more = self.known[one], self.known[two]
        self.leads[two] = one
        if known[0] == "line" and more[0] == "line":
            return self._join_lines(one, known, more)
        joined = _joined(known, more)
        if joined is None:
            return False
        self.known[one] = joined
        return True

    def _join_lines(self, one, known, more):
        _, entry, size = known
        _, other, told = more
        if size is not None and told is not None and size != told:
            return False
        self.known[one] = ("line", entry, told if size is None else size)
        return self.make_equal(entry, other)

    def kind(self, term):
        """Return the kind of a term; None if it is open."""
        known = self.known[self.leader(term)]
        if known[0] == "told":
            return known[1]
        if known[0] != "line" or known[2] is None:
            return None
        entry = self.kind(known[1])
        return None if entry is None else ("row", entry, known[2])


def _joined(known, more):
    """Return what is known of both, None if nothing fits both; they are not both lines."""
    if known == more or more == ANY:
        return known
    if known == ANY:
        return more
    if known[0] == "line" or more[0] == "line":
        return None
    if known == PLAIN:
        return more
    if more == PLAIN:
        return known
    if known[0] == "number" and more[0] == "number":
        return ("number", min(known[1], more[1]), max(known[2], more[2]))
    if known[0] == "told" and more[0] == "told":
        return None
    return _number_told(known, more) if known[0] == "number" else _number_told(more, known)


def _number_told(number, told):
    kind = told[1]
    if kind[0] != "num":
        return None
    return told if kind[1] <= number[1] and number[2] <= kind[2] else None
