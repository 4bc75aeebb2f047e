"""The signs of formulas.

A formula that has been read is a list of signs, each ahead of the formulas directly in it: `(f&g)` is
`&`, then f, then g; `[f]g` is `[`, then f, then g. A sign is the byte that is written for it; that of
`Kaf` is its agent's letter. So the length of the list is the formula's size.
"""

ALWAYS = 84
FIRST_ATOM = 48
LAST_ATOM = 55
NOT = 126
AND = 38
OR = 124
KNOWS = 75
FIRST_AGENT = 97
LAST_AGENT = 100
EVERYBODY = 69
COMMON = 67
TELLING = 91
TOLD = 93
BRACKET = 40
BRACKET_END = 41


def is_atom(sign):
    """Whether the sign is an atom's digit."""
    return FIRST_ATOM <= sign <= LAST_ATOM


def is_agent(sign):
    """Whether the sign is an agent's letter."""
    return FIRST_AGENT <= sign <= LAST_AGENT


def parts(sign):
    """How many formulas stand directly in one that begins with the sign."""
    if sign == ALWAYS or is_atom(sign):
        return 0
    if sign in (AND, OR, TELLING):
        return 2
    return 1
