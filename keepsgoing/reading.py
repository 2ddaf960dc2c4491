"""Reading: from the text of a program to its tree."""

from keepsgoing.readexprs import read_expr
from keepsgoing.readkinds import read_kind
from keepsgoing.streams import TokenStream, read_name
from keepsgoing.words import is_base_name


def read_program(text):
    """Return the tree of a text."""
    stream = TokenStream(text)
    kinds = []
    while stream.takes("kind"):
        kinds.append(_read_named_kind(stream))
    units = [_read_unit(stream)]
    while stream.ahead() == "unit":
        units.append(_read_unit(stream))
    stream.want_end()
    return ("program", tuple(kinds), tuple(units))


def _read_named_kind(stream):
    name = stream.want_name()
    stream.want("=")
    kind = read_kind(stream)
    stream.want(";")
    return (name, kind)


def _read_unit(stream):
    stream.want("unit")
    name = stream.want_name()
    stream.want("(")
    ins = stream.want_some(_read_in)
    stream.want(")")
    stream.want("gives")
    stream.want("(")
    outs = stream.want_some(_read_declared)
    stream.want(")")
    stream.want("{")
    items = []
    while not stream.takes("}"):
        items.append(_read_item(stream))
    return ("unit", name, ins, outs, tuple(items))


def _read_in(stream):
    event = 1 if stream.takes("event") else 0
    name, kind = _read_declared(stream)
    return (name, kind, event)


def _read_declared(stream):
    name = stream.want_name()
    stream.want(":")
    return (name, read_kind(stream))


def _read_item(stream):
    word = stream.ahead()
    if word not in ("assume", "keep"):
        return _read_inner(stream)
    stream.take()
    expr = read_expr(stream)
    stream.want(";")
    return (word, expr)


def _read_inner(stream):
    if stream.takes("local"):
        return _read_local(stream)
    if stream.takes("use"):
        return _read_use(stream)
    if stream.takes("machine"):
        return _read_machine(stream)
    name = stream.want_name()
    stream.want("=")
    expr = read_expr(stream)
    stream.want(";")
    return ("set", name, expr)


def _read_local(stream):
    name = stream.want_name()
    kind = read_kind(stream) if stream.takes(":") else None
    stream.want(";")
    return ("local", name, kind)


def _read_use(stream):
    names = stream.want_some(read_name)
    stream.want("=")
    unit = stream.want_name()
    stream.want("(")
    args = stream.want_some(read_expr)
    stream.want(")")
    every = read_expr(stream) if stream.takes("every") else None
    stream.want(";")
    return ("use", names, unit, args, every)


def _read_machine(stream):
    name = stream.want_name()
    stream.want("{")
    states = [_read_state(stream)]
    while not stream.takes("}"):
        states.append(_read_state(stream))
    return ("machine", name, tuple(states))


def _read_state(stream):
    stream.want("state")
    name = stream.want_name()
    stream.want("{")
    unless = _read_turns(stream, "unless")
    items = []
    while stream.ahead() in ("local", "use", "machine") or is_base_name(stream.ahead()):
        items.append(_read_inner(stream))
    until = _read_turns(stream, "until")
    stream.want("}")
    return (name, unless, tuple(items), until)


def _read_turns(stream, word):
    turns = []
    while stream.takes(word):
        expr = read_expr(stream)
        how = stream.want_one_of(("go", "back"))
        turns.append((expr, how, stream.want_name()))
        stream.want(";")
    return tuple(turns)
