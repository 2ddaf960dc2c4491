"""Clocks of which the beginning may be unknown, as terms that are made equal."""


class ClockTerms:
    """Beginnings numbered from 0; number 0 is the clock `()`.

    A term is `(beginning, layers)`. A beginning that is known leads to a term, others to None.
    """

    def __init__(self):
        self.leads = [None]

    def new(self):
        """Return a term with a new beginning and no layers."""
        self.leads.append(None)
        return (len(self.leads) - 1, ())

    def whole(self, term):
        """Return an equal term whose beginning is not known, or the clock `()`."""
        start, layers = term
        pieces = [layers]
        while self.leads[start] is not None:
            start, layers = self.leads[start]
            pieces.append(layers)
        found = []
        for piece in reversed(pieces):
            found.extend(piece)
        return (start, tuple(found))

    def make_equal(self, term, other):
        """Make two terms equal, and tell whether they can be."""
        start, layers = self.whole(term)
        begin, others = self.whole(other)
        shared = 0
        while shared < min(len(layers), len(others)):
            if layers[-1 - shared] != others[-1 - shared]:
                return False
            shared += 1
        layers = layers[:len(layers) - shared]
        others = others[:len(others) - shared]
        if start == begin:
            # A clock is not itself with more layers.
            return layers == others
        if layers == () and start != 0:
            self.leads[start] = (begin, others)
            return True
        if others == () and begin != 0:
            self.leads[begin] = (start, layers)
            return True
        return False

    def tell(self, start, clock):
        """Tell the clock that a beginning is, which is not known."""
        self.leads[start] = (0, clock)
