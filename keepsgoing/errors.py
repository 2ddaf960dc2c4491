"""All errors that the program raises; each keeps its arguments as attributes."""


class GoingError(ValueError):
    """What all errors of the program stand under."""


class BadText(GoingError):
    """A text that is none of the grammar; at is the number of the first bad token."""

    def __init__(self, at):
        super().__init__(f"bad token number {at}")
        self.at = at


class NameFault(GoingError):
    """A fault in the names of a program."""


class Unknown(NameFault):
    """A name that means nothing at its place."""

    def __init__(self, name):
        super().__init__(f"unknown name {name!r}")
        self.name = name


class Twice(NameFault):
    """A name that is there already."""

    def __init__(self, name):
        super().__init__(f"name {name!r} is there already")
        self.name = name


class BadUse(NameFault):
    """A name or a word that cannot be used at its place."""

    def __init__(self, name):
        super().__init__(f"{name!r} cannot be used here")
        self.name = name


class BadNumber(NameFault):
    """A number that is out of its bounds."""

    def __init__(self, value):
        super().__init__(f"number {value} is out of bounds")
        self.value = value


class CheckFault(GoingError):
    """A fault of a flat program."""


class KindClash(CheckFault):
    """No kinds fit the equations up to the number at."""

    def __init__(self, at):
        super().__init__(f"no kinds fit the equations up to number {at}")
        self.at = at


class KindOpen(CheckFault):
    """The equation of the name has parts whose kind nothing tells."""

    def __init__(self, name):
        super().__init__(f"nothing tells all kinds in the equation of {name!r}")
        self.name = name


class ClockClash(CheckFault):
    """No clocks fit the equations up to the number at."""

    def __init__(self, at):
        super().__init__(f"no clocks fit the equations up to number {at}")
        self.at = at


class Ring(CheckFault):
    """The names hang on each other in a way that is not let."""

    def __init__(self, names):
        super().__init__(f"a ring that is not let: {names!r}")
        self.names = names


class Unsettled(CheckFault):
    """The names of a ring do not settle for these truths."""

    def __init__(self, names, truths):
        super().__init__(f"the ring {names!r} does not settle for {truths!r}")
        self.names = names
        self.truths = truths


class Unset(CheckFault):
    """The name may have a value that comes from nothing that has been set."""

    def __init__(self, name):
        super().__init__(f"{name!r} may come from what was never set")
        self.name = name


class LimitFault(GoingError):
    """Something is larger, or more, than it may be."""


class TooLarge(LimitFault):
    """The part that is told would be too large."""

    def __init__(self, part):
        super().__init__(f"too large: {part}")
        self.part = part


class TooMany(LimitFault):
    """There are too many of the part that is told."""

    def __init__(self, part):
        super().__init__(f"too many: {part}")
        self.part = part


class NoLags(GoingError):
    """A ring of controllers for which there are no lags."""

    def __init__(self, ring):
        super().__init__(f"no lags for the ring {ring!r}")
        self.ring = ring
