"""Formulas from bytes to signs and back again.

All is done by loops, since a text may nest as deep as it is long before it is known to be too deep.
"""

from whoknows.signs import ALWAYS, AND, BRACKET, BRACKET_END, COMMON, EVERYBODY, KNOWS, NOT, OR, TELLING, TOLD
from whoknows.signs import is_agent, is_atom, parts

BEGINNING = 0
NAMING = 1
ENDED = 2


class Reader:
    """Reads a formula byte by byte."""

    def __init__(self):
        self.signs = []
        # The places, in signs, of those that still want a byte between or behind their formulas.
        self.wanting = []
        self.stage = BEGINNING

    def takes(self, code):
        """Goes one byte on; False if no formula goes on so."""
        if self.stage == BEGINNING:
            return self.begins(code)
        if self.stage == NAMING:
            return self.names_agent(code)
        return self.goes_on(code)

    def begins(self, code):
        """Takes the first byte of a formula."""
        if code == KNOWS:
            self.stage = NAMING
            return True
        if code in (BRACKET, TELLING):
            self.wanting.append(len(self.signs))
        elif code == ALWAYS or is_atom(code):
            self.stage = ENDED
        elif code not in (NOT, EVERYBODY, COMMON):
            return False
        self.signs.append(code)
        return True

    def names_agent(self, code):
        """Takes the byte behind a K."""
        self.signs.append(code)
        self.stage = BEGINNING
        return is_agent(code)

    def goes_on(self, code):
        """Takes the byte behind a formula that has ended."""
        if not self.wanting:
            return False
        place = self.wanting.pop()
        if self.signs[place] == BRACKET:
            # Only here is it told which sign joins the two; it takes the place kept by the bracket.
            self.signs[place] = code
            self.wanting.append(place)
            self.stage = BEGINNING
            return code in (AND, OR)
        if self.signs[place] == TELLING:
            self.stage = BEGINNING
            return code == TOLD
        return code == BRACKET_END

    def is_done(self):
        """Whether the bytes taken are one whole formula."""
        return self.stage == ENDED and not self.wanting


def signs_of(codes):
    """The signs of the formula that the bytes spell, or None if they spell none."""
    reader = Reader()
    for code in codes:
        if not reader.takes(code):
            return None
    if not reader.is_done():
        return None
    return reader.signs


def depth_of(signs):
    """How deep the formula is."""
    depths = []
    for sign in reversed(signs):
        deepest = 0
        for part in range(parts(sign)):
            deepest = max(deepest, depths.pop())
        depths.append(deepest + 1)
    return depths.pop()


def codes_of(signs):
    """The bytes that spell a formula in which nothing is told."""
    codes = []
    wanted = []
    for sign in signs:
        if sign in (AND, OR):
            codes.append(BRACKET)
            wanted.append(sign)
        elif is_agent(sign):
            codes.extend([KNOWS, sign])
        else:
            codes.append(sign)
        if parts(sign) == 0:
            end_formula(codes, wanted)
    return codes


def end_formula(codes, wanted):
    """Writes what is wanted behind a formula that has ended, up to where the next one begins."""
    while wanted:
        code = wanted.pop()
        codes.append(code)
        if code != BRACKET_END:
            wanted.append(BRACKET_END)
            return
