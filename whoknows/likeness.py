"""Which states are alike, and the formula that parts two that are not.

States stand by their places, and some states as one whole number, as in a View. The pairs of a round are
kept as, for the state at each place, the states with which it is paired. In each round they fall into
classes: a state's partners have the same partners. So two states see the same classes just if each state
that is seen from the one has a partner seen from the other.
"""

from whoknows.holding import AGENTS
from whoknows.signs import ALWAYS, AND, FIRST_AGENT, FIRST_ATOM, NOT, OR

LONGEST = 300


def rounds_of(view):
    """The pairs of each round, up to the last one from which a pair goes; its pairs are alike."""
    rounds = [paired_by(view.masks)]
    while True:
        pairs = rounds[-1]
        fewer = paired_by([seen_from(view, pairs, place) for place in range(len(pairs))])
        if fewer == pairs:
            return rounds
        rounds.append(fewer)


def paired_by(keys):
    """The pairs of places with the same key."""
    classes = {}
    for place, key in enumerate(keys):
        classes[key] = classes.get(key, 0) | (1 << place)
    return [classes[key] for key in keys]


def seen_from(view, pairs, place):
    """The partners of the state at the place and, for each agent, of those that it takes for possible there."""
    found = [pairs[place]]
    for agent in range(AGENTS):
        partners = 0
        for seen in places_in(view.possible[agent][place]):
            partners = partners | pairs[seen]
        found.append(partners)
    return tuple(found)


def places_in(some):
    """The places of some states."""
    return [place for place in range(some.bit_length()) if ((some >> place) & 1) == 1]


def round_gone(rounds, first, second):
    """The round in which the pair goes, or None if the two are alike."""
    for count, pairs in enumerate(rounds):
        if ((pairs[first] >> second) & 1) == 0:
            return count
    return None


def least_alike(view):
    """For each state's number the least number of a state alike."""
    found = {}
    for place, partners in enumerate(rounds_of(view)[-1]):
        found[view.numbers[place]] = view.numbers[places_in(partners)[0]]
    return found


def parting(view, rounds, first, second):
    """The signs of the formula that parts first from second, or None if it is too long.

    What is used in it stands in it, so it is too long itself if any part is: it is enough to count its signs.
    """
    signs = []
    # Signs and pairs that are still to be written, the next one last.
    wanted = [(first, second)]
    while wanted and len(signs) <= LONGEST:
        piece = wanted.pop()
        if isinstance(piece, int):
            signs.append(piece)
        else:
            wanted.extend(list(reversed(pieces_apart(view, rounds, piece[0], piece[1]))))
    if len(signs) > LONGEST:
        return None
    return signs


def pieces_apart(view, rounds, first, second):
    """The signs of the formula that parts first from second, with pairs in the place of what parts these."""
    gone = round_gone(rounds, first, second)
    if gone == 0:
        return atom_apart(view, first, second)
    pairs = rounds[gone - 1]
    lone = without_partner(view, pairs, first, second)
    if lone is not None:
        others = places_in(view.possible[lone.agent][second])
        found = [(lone.place, other) for other in others]
        return [NOT, FIRST_AGENT + lone.agent, NOT] + joined(AND, [ALWAYS], found)
    # The pair goes, so if there is none on this side there is one on the other.
    lone = without_partner(view, pairs, second, first)
    others = places_in(view.possible[lone.agent][first])
    found = [(other, lone.place) for other in others]
    return [FIRST_AGENT + lone.agent] + joined(OR, [NOT, ALWAYS], found)


def atom_apart(view, first, second):
    """The signs that part two states of unlike masks: the least atom that is so in just one of them."""
    atom = places_in(view.masks[first] ^ view.masks[second])[0]
    if ((view.masks[first] >> atom) & 1) == 1:
        return [FIRST_ATOM + atom]
    return [NOT, FIRST_ATOM + atom]


class Lone:
    """A state that an agent takes for possible in one of two states, without a partner in the other."""

    def __init__(self, agent, place):
        self.agent = agent
        self.place = place


def without_partner(view, pairs, here, there):
    """The first agent, and for it the first state that is possible here, with no partner there; or None."""
    for agent in range(AGENTS):
        for place in places_in(view.possible[agent][here]):
            if (pairs[place] & view.possible[agent][there]) == 0:
                return Lone(agent, place)
    return None


def joined(sign, empty, found):
    """The pieces found, each but the last joined with those behind it; the empty ones if there are none."""
    if not found:
        return empty
    pieces = []
    for each in found[:-1]:
        pieces.extend([sign, each])
    return pieces + [found[-1]]
