"""Reading KINDs."""

from keepsgoing.errors import BadText
from keepsgoing.streams import read_name
from keepsgoing.words import is_base_name


def read_kind(stream):
    """Take a KIND and return its tree."""
    sizes = []
    while stream.takes("row"):
        sizes.append(stream.want_number())
        stream.want("of")
    kind = _read_plain(stream)
    for size in reversed(sizes):
        kind = ("row", kind, size)
    return kind


def _read_plain(stream):
    if stream.takes("bool"):
        return ("bool",)
    if stream.takes("num"):
        return _read_num(stream)
    if stream.takes("mode"):
        return _read_mode(stream)
    if is_base_name(stream.ahead()):
        return ("named", stream.take())
    raise BadText(stream.at)


def _read_num(stream):
    low = _read_int(stream)
    stream.want("..")
    high = _read_int(stream)
    per = stream.want_number() if stream.takes("per") else 1
    return ("num", low, high, per, stream.want_one_of(("wrap", "hold")))


def _read_int(stream):
    if stream.takes("-"):
        return -stream.want_number()
    return stream.want_number()


def _read_mode(stream):
    stream.want("(")
    names = stream.want_some(read_name)
    stream.want(")")
    return ("mode", names)
