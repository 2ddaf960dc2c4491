"""Texts that the tests of reading and writing share."""

FORMS = """
kind lv = num - 3 .. 4 per 2 hold ;
kind wide = num 0..1000 wrap;
kind md = mode(aa,bb , c3);
kind one = mode ( z ) ; kind bits = row 6 of bool; kind mine = row 2 of lv;
unit first(a: bool, b: row 3 of row 2 of md) gives (c: lv, d: num -5..-0 hold) {
  local e; local f : bits;
  e = - 5 + - - 5 - -a * not not last - 3;
  f = a then b or c xor d and e == f + 1 - 2 * 3 / 4;
  use c = first(a); use c, d = first(a, b then c) every not a;
  assume a < b; keep (a <= b) != (c == d);
  c = pick(a, b, c); c = mid(a, b, c); c = vote(a, b, c); c = put(a, b, c);
  c = min(a, b); c = max(a, b); c = at(a, b); c = sum(a); c = any(a); c = all(a);
  c = row(a); c = row(a, b, c, true, false, md.aa); c = weave(a); c = weave(a, b, c);
  c = as(a, num 0..5 per 3 wrap); c = as(a, row 3 of lv);
  machine m { state s {} state t { unless a go s; unless not b back t; local g: bool; g = a;
    use c = first(a); machine n { state u { } } until a then b go s; until c.d back t; } }
}
unit top(event a: bool, event b: lv, c: lv) gives (d: bool) {
  d = when(a, b is true); d = when(a, b is md.aa); d = when(a, every 12 from 0);
  d = held(a, b, c is false); d = held(a, b, every 3 from 2);
  d = merge(a, true: b, false: c); d = merge(a, md.aa: b then c, md.bb: c, md.c3: 0);
  d = here(a); d = else(a, b or c); d = fresh(b, 12, - c);
  d = ((a)) + (b + c) + (a * b) * (a + b); d = (a then b) then c; d = a == (b == c);
  d = -(5); d = -(a); d = - - 0; d = not (a or b);
}
"""

SMALL = """kind k = num - 3 .. 4 per 2 hold ; kind m = mode ( a , b ) ;
unit u ( event x : k , y : row 2 of m ) gives ( z : bool ) { local q : bool ; assume x ;
z = - 5 + not last a == b then c ; use z , q = u ( 1 , y . a ) every true ;
machine w { state s { unless a go t ; z = when ( a , b is m . a ) ; until b back s ; } }
keep merge ( x , true : 1 , m . b : held ( 1 , 2 , every 3 from 0 ) ) ; }
unit v ( a : bool ) gives ( b : bool ) { b = fresh ( a , 3 , here ( a ) ) * else ( a , 1 ) ;
b = pick ( a , b , c ) or row ( a , ( b ) ) ; b = as ( a , k ) / weave ( a , b ) ; }"""
