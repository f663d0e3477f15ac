"""Libraries that several tests use."""

from endsahead.reader import read_text

# The examples of the document.
KNOW = read_text("once k; plain p; plain q; given know(k): p; given use(p, p): q;")
TWO = read_text("once k; plain p; plain q; record two { a: k, b: k } given know(k): p; given use(p, p, num): q; given pair(p): two;")
ASK = read_text("once k; choice v { yes: k, no } given ask(): v; given end(k): k;")

# Of six once kinds each makes k, so that three of them make q in 56 ways; with q itself there are 57.
MANY = read_text(
    "once k; once a; once b; once c; once d; once e; plain q; given fa(a): k; given fb(b): k; given fc(c): k; given fd(d): k; "
    "given fe(e): k; given most(k, k, k): q; "
)


def library_with(many):
    """Return a library in which the lot of q in EX has so many members, from 57 on."""
    found = [*MANY]
    for at in range(many - 57):
        found.extend([("plain", f"y{at}"), ("given", f"m{at}", (f"y{at}",), "q")])
    return tuple(found)


def library_with_blocks(many):
    """Return a library in which W of q has so many members, from 60 on, but the lot of q in EX 59."""
    found = [*library_with(59)]
    for at in range(many - 59):
        found.append(("choice", f"v{at}", ((f"arm{at}", "y0"), (f"leg{at}", "y1"))))
    return tuple(found)
