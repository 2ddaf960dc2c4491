"""Rates: at which ticks clocks are there that go by numbers alone."""


def rate_of(clock):
    """Return the rate of a clock; None if it has a layer by a value."""
    rate = (1, 0)
    for layer in clock:
        if layer[0] == "is":
            return None
        rate = _slowed(rate, layer[1], layer[2])
    return rate


def _slowed(rate, many, start):
    n, k = rate
    return (n * many, k + n * start)


def one_beat(clock, other):
    """Tell whether two clocks are of one beat."""
    return _plain(clock) == _plain(other)


def _plain(clock):
    """Return the clock without homes, with neighbouring rates as one."""
    found = []
    rate = (1, 0)
    for layer in clock:
        if layer[0] == "every":
            rate = _slowed(rate, layer[1], layer[2])
        else:
            found.extend([rate, layer])
            rate = (1, 0)
    return found + [rate]
