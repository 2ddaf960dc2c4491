"""The grammar of [7] as data, and a recognizer by Earley's way that tells the first bad token."""

import re

RESERVED = set(
    "kind bool num per wrap hold mode row of unit event gives local use every from assume keep "
    "machine state unless until go back then or xor and not last true false pick mid min max vote "
    "as at put sum any all when held merge weave here else fresh is".split())

RULES = """
PROGRAM: KINDS UNIT UNITS
KINDS: | KINDS kind NAME = KIND ;
UNITS: | UNITS UNIT
KIND: bool | num INT .. INT PER HOW | mode ( NAMES ) | row NUMBER of KIND | NAME
PER: | per NUMBER
HOW: wrap | hold
INT: NUMBER | - NUMBER
NAMES: NAME | NAMES , NAME
UNIT: unit NAME ( INS ) gives ( OUTS ) { ITEMS }
INS: IN | INS , IN
IN: NAME : KIND | event NAME : KIND
OUTS: OUT | OUTS , OUT
OUT: NAME : KIND
ITEMS: | ITEMS ITEM
ITEM: INNER | assume EXPR ; | keep EXPR ;
INNER: local NAME ; | local NAME : KIND ; | NAME = EXPR ; | machine NAME { STATES }
INNER: use NAMES = NAME ( EXPRS ) ; | use NAMES = NAME ( EXPRS ) every EXPR ;
STATES: STATE | STATES STATE
STATE: state NAME { UNLESSES INNERS UNTILS }
UNLESSES: | UNLESSES unless TURN
UNTILS: | UNTILS until TURN
INNERS: | INNERS INNER
TURN: EXPR go NAME ; | EXPR back NAME ;
EXPR: OR | OR then EXPR
OR: XOR | OR or XOR
XOR: AND | XOR xor AND
AND: COMP | AND and COMP
COMP: SUM | SUM == SUM | SUM != SUM | SUM < SUM | SUM <= SUM
SUM: PROD | SUM + PROD | SUM - PROD
PROD: FRONT | PROD * FRONT | PROD / FRONT
FRONT: BOTTOM | not FRONT | last FRONT | - FRONT
BOTTOM: ( EXPR ) | NUMBER | true | false | NAME | NAME . NAME
BOTTOM: pick ( EXPR , EXPR , EXPR ) | mid ( EXPR , EXPR , EXPR ) | vote ( EXPR , EXPR , EXPR )
BOTTOM: put ( EXPR , EXPR , EXPR ) | min ( EXPR , EXPR ) | max ( EXPR , EXPR )
BOTTOM: at ( EXPR , EXPR ) | sum ( EXPR ) | any ( EXPR ) | all ( EXPR ) | row ( EXPRS )
BOTTOM: weave ( EXPRS ) | as ( EXPR , KIND ) | when ( EXPR , LAYER )
BOTTOM: held ( EXPR , EXPR , LAYER ) | merge ( NAME , ARMS ) | here ( NAME )
BOTTOM: else ( NAME , EXPR ) | fresh ( NAME , NUMBER , EXPR )
EXPRS: EXPR | EXPRS , EXPR
ARMS: ARM | ARMS , ARM
ARM: VALUE : EXPR
LAYER: NAME is VALUE | every NUMBER from NUMBER
VALUE: true | false | NAME . NAME
"""


def grammar():
    found = {}
    for line in RULES.strip().splitlines():
        head, body = line.split(":", 1)
        # A colon can be a token, too, but only behind the first one of a line.
        for way in body.split(" | ") if not body.startswith(" |") else ("",) + tuple(
                body[2:].split(" | ")):
            found.setdefault(head, []).append(tuple(way.split()))
    return found


GRAMMAR = grammar()


def terminal(token):
    if re.fullmatch("[a-z][a-z0-9]{0,7}", token) and token not in RESERVED:
        return "NAME"
    if re.fullmatch("0|[1-9][0-9]{0,3}", token) and int(token) <= 1000:
        return "NUMBER"
    return token


def closure(chart, at, items):
    """All items at a place, from those that have been scanned."""
    done = {}
    waiting = list(items)
    while waiting:
        item = waiting.pop()
        if item in done:
            continue
        done[item] = True
        head, body, dot, start = item
        if dot == len(body):
            back = chart[start] if start < at else done
            for h, b, d, s in list(back):
                if d < len(b) and b[d] == head:
                    waiting.append((h, b, d + 1, s))
        elif body[dot] in GRAMMAR:
            for way in GRAMMAR[body[dot]]:
                waiting.append((body[dot], way, 0, at))
                if way == ():
                    waiting.append((head, body, dot + 1, start))
            for h, b, d, s in list(done):
                if h == body[dot] and d == len(b) and s == at:
                    waiting.append((head, body, dot + 1, start))
    return done


def first_bad(tokens):
    """The number that BadText must tell, None for a text of the grammar."""
    at, whole = walked(tokens)
    return None if len(tokens) in whole else at


def whole_ones(tokens):
    """The lengths of the beginnings of the tokens that are texts of the grammar."""
    return walked(tokens)[1]


def walked(tokens):
    chart = [closure([], 0, [("TOP", ("PROGRAM",), 0, -1)])]
    whole = []
    for at, token in enumerate(tokens):
        kind = terminal(token)
        moved = [(h, b, d + 1, s) for h, b, d, s in chart[at]
                 if d < len(b) and b[d] == kind and kind not in GRAMMAR]
        if not moved:
            return at, whole
        chart.append(closure(chart, at + 1, moved))
        if ("TOP", ("PROGRAM",), 1, -1) in chart[-1]:
            whole.append(at + 1)
    return len(tokens), whole
