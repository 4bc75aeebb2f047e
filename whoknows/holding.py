"""In which states a formula holds.

Some states of a model are one whole number here: the state at place i in the model's order counts 2^i
in it. So a formula's value is the states in which it holds.
"""

from whoknows.signs import ALWAYS, AND, COMMON, EVERYBODY, FIRST_AGENT, FIRST_ATOM, NOT, OR, TELLING
from whoknows.signs import parts

ATOMS = 8
AGENTS = 4


class View:
    """A model by places in the place of numbers."""

    def __init__(self, masks, links):
        self.numbers = list(masks)
        self.masks = list(masks.values())
        self.all_states = (1 << len(masks)) - 1
        self.atoms = [states_with(masks, atom) for atom in range(ATOMS)]
        # For each agent, and for the state at each place, the states that it takes for possible there.
        self.possible = [[0] * len(masks) for agent in range(AGENTS)]
        # The same for all agents together.
        self.anyone = [0] * len(masks)
        places = {}
        for place, number in enumerate(self.numbers):
            places[number] = place
        for agent, start, end in links:
            bit = 1 << places[end]
            place = places[start]
            self.possible[agent][place] = self.possible[agent][place] | bit
            self.anyone[place] = self.anyone[place] | bit


def states_with(masks, atom):
    """The states in which the atom is so."""
    found = 0
    for place, mask in enumerate(masks.values()):
        if ((mask >> atom) & 1) == 1:
            found = found | (1 << place)
    return found


def knowing(possible, value, only):
    """Those of only from which, among only, none but states of value are taken for possible."""
    found = 0
    for place, seen in enumerate(possible):
        bit = 1 << place
        if (only & bit) != 0 and (seen & only & ~value) == 0:
            found = found | bit
    return found


def knowing_commonly(anyone, value, only):
    """Those of only from which, among only, all chains lead to states of value."""
    found = only
    while True:
        # A chain that leads astray is one link to a wrong state, or one to where such a chain begins.
        fewer = knowing(anyone, value & found, only)
        if fewer == found:
            return found
        found = fewer


class Pending:
    """A sign whose formulas are not all gone through, and the states among which it is asked."""

    def __init__(self, sign, only):
        self.sign = sign
        self.only = only
        self.first = None


class Walk:
    """Goes through a formula sign by sign; a told formula's value is known before what is behind it."""

    def __init__(self, view):
        self.view = view
        self.only = view.all_states
        self.pending = []
        self.value = 0

    def take(self, sign):
        """Goes one sign on."""
        if parts(sign) > 0:
            self.pending.append(Pending(sign, self.only))
        elif sign == ALWAYS:
            self.end_formula(self.only)
        else:
            self.end_formula(self.view.atoms[sign - FIRST_ATOM] & self.only)

    def end_formula(self, value):
        """Hands the value of a formula that has ended to the signs that it ends."""
        ended = value
        while self.pending:
            last = self.pending[-1]
            if last.first is None and parts(last.sign) == 2:
                last.first = ended
                if last.sign == TELLING:
                    self.only = ended
                return
            self.pending.pop()
            self.only = last.only
            ended = self.value_of(last, ended)
        self.value = ended

    def value_of(self, last, value):
        """The value of the pending sign's formula; value is that of the last formula directly in it."""
        if last.sign == NOT:
            return last.only & ~value
        if last.sign == AND:
            return last.first & value
        if last.sign == OR:
            return last.first | value
        if last.sign == TELLING:
            return (last.only & ~last.first) | value
        if last.sign == EVERYBODY:
            return knowing(self.view.anyone, value, last.only)
        if last.sign == COMMON:
            return knowing_commonly(self.view.anyone, value, last.only)
        return knowing(self.view.possible[last.sign - FIRST_AGENT], value, last.only)


def states_where(masks, links, signs):
    """The numbers of the states in which the formula holds, in order."""
    view = View(masks, links)
    walk = Walk(view)
    for sign in signs:
        walk.take(sign)
    return [number for place, number in enumerate(view.numbers) if ((walk.value >> place) & 1) == 1]
