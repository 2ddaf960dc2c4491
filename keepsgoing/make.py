"""The whole: from a text to an image and its account, and the verdict of a text."""

from keepsgoing.deciding import decided
from keepsgoing.flatten import flatten
from keepsgoing.imageof import image_of
from keepsgoing.improving import improved
from keepsgoing.naming import check_names
from keepsgoing.orders import order_of
from keepsgoing.phases import account
from keepsgoing.reading import read_program
from keepsgoing.seats import seats_of
from keepsgoing.straightening import straight_flow


def made(text, *, improve=1, share=1):
    """Return what is made of a text, from its flat program to the image and its account."""
    flat, flow = _flow_of_text(text)
    if improve:
        flow = improved(flow)
    order = order_of(flow)
    seating = seats_of(flow, order) if share else tuple(range(len(flow[2])))
    image = image_of(flow, order, seating)
    return ("made", flat, flow, order, seating, image, account(flow, image))


def verdict(text, most):
    """Return the decision about the improved flow of a text."""
    return decided(improved(_flow_of_text(text)[1]), most)


def _flow_of_text(text):
    """Return the flat program of a text, and its straight flow."""
    program = read_program(text)
    check_names(program)
    flat = flatten(program)
    return (flat, straight_flow(flat))
