"""The whole check of a flat program."""

from keepsgoing.clocksof import clocks_of
from keepsgoing.flatrings import check_rings
from keepsgoing.kindsof import kinds_of
from keepsgoing.starts import check_starts


def checked(flat):
    """Return the kinds and the clocks of the equations; raise the first fault of a flat program."""
    told = (kinds_of(flat), clocks_of(flat))
    check_rings(flat)
    check_starts(flat)
    return told
