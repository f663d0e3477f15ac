"""Rows of right programs in which all sorts of declarations, statements and E stand."""

from endsahead.words import cut

HEAD = (
    "once k; plain q; plain p; record pair { one: k, two: k } record page { at: p, many: num, sure: truth } "
    "record book { page: page, other: pair } choice v { no, ok: k } choice w { near: p, far: pair, nil } "
    "given f(k, k): q; given h(): v; given make(p): pair; given ask(k, num): num; given write(p, truth): page; "
)
PARAMETERS = "def g(x: k, y: k, z: p, n: num, b: truth): q {"
FUNCTIONS = [
    PARAMETERS + " let u: num = ask(x, n + (1 + 2)); let t: truth = (u + n < 2 and (b and true)); give f(y, make(z).one); }",
    PARAMETERS + " open pair { one, two } = pair { x, (y) }; let r: pair = make(z); give f(r.one, one); }",
    PARAMETERS + " if write(z, n < 3).many + 1 < 2 and b { give f(x, y); } else { let c: k = y; open page { l, m, s } = write(z, b); give f(c, x); } }",
    PARAMETERS + " if b { let u: num = ask(x, 1); } give f(y, make(z).two); }",
    PARAMETERS + " if b { give f(x, y); } if n < 2 { } else { if b { } else { let u: k = x; } } repeat ask(y, n) { let u: num = 1; } give f(make(z).one, make(z).one); }",
    PARAMETERS + " match v h() { no { give f(x, y); } ok s { if b { give f(s, y); } let u: num = ask(x, 0); give f(s, y); } } }",
    PARAMETERS + " match w far(make(z)) { near s { } far s { give f(s.one, x); } nil { let u: num = ask(x, 1) + ask(y, 2); } } give f(make(z).one, make(z).two); }",
    PARAMETERS + " repeat 2 { match v ok(make(z).one) { no { } ok s { let u: num = ask(s, n); give f(make(z).one, make(z).two); } } repeat n + 1 { if b { } else { } } } give f(x, y); }",
    PARAMETERS + " match w nil { near s { let u: page = write(s, true); give f(x, y); } far s { let u: book = book { write(z, b and 1 < 2), s }; give f(x, y); } nil { give f(y, x); } } }",
    "def g(): num { give 7; } def a(): truth { give g() + g() < 1; } def b1(c: book, d: page): num { if (d.sure) { give (c).page.many; } give 0 + (c.page).many; }",
    "plain extra; def g(c: book, d: book, e: page): q { if e.sure and (e).many + 2 < (3) { let l: k = c.other.one; give f(l, d.other.two); } give f((c.other).one, d.other.one); } once more;",
    "def g(x: w, y: v, a: p, s1: k): pair { match w x { near s { give make(s); } far s { give s; } nil { match v y { no { give make(a); } ok s { give pair { s, s1 }; } } } } }",
]


def rights():
    """Return the rows of the functions behind HEAD."""
    return [cut(HEAD + text) for text in FUNCTIONS]
