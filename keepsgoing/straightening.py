"""From a flat program to a straight flow, behind the whole check."""

from keepsgoing.checking import checked
from keepsgoing.flowof import flow_of
from keepsgoing.flows import is_straight
from keepsgoing.opening import opened


def straight_flow(flat):
    """Return the flow of a flat program, opened if it has knots; the flat program is checked first."""
    checked(flat)
    flow = flow_of(flat)
    return flow if is_straight(flow) else opened(flow)
