"""What the tests share: calls as lists, answers call by call, and the document's words done plainly.

The plain ways here follow the document by recursion over whole texts and sets of states; they share no
code with the program.
"""

import random
import unittest

from whoknows.model import answers

LEAST = -1000000000
GREATEST = 1000000000


def state(mask):
    return [0, mask]


def link(agent, start, end):
    return [1, agent, start, end]


def unlink(agent, start, end):
    return [2, agent, start, end]


def drop(number):
    return [3, number]


def so(number):
    return [4, number]


def with_formula(call, formula):
    codes = list(formula.encode("ascii")) if isinstance(formula, str) else list(formula)
    return [call, len(codes)] + codes


def holds(formula):
    return with_formula(5, formula)


def truth(formula):
    return with_formula(6, formula)


def reduce(formula):
    return with_formula(7, formula)


def tell(formula):
    return with_formula(8, formula)


def flat(calls):
    return [number for call in calls for number in call]


def cut(given):
    """The answers, a list for each call."""
    found = []
    place = 0
    while place < len(given):
        count = given[place]
        found.append(given[place + 1:place + 1 + count])
        if len(found[-1]) != count or count < 1:
            raise ValueError("the answers don't stand as counted")
        place += 1 + count
    return found


def ask(calls):
    """The answers to a list of calls, a list for each call."""
    found = cut(answers(flat(calls)))
    if len(found) != len(calls):
        raise ValueError("not an answer for each call")
    return found


def last(calls):
    return ask(calls)[-1]


def text(answer):
    """The formula in an answer of reduce."""
    if answer[0] != 0:
        raise ValueError(f"refused: {answer}")
    return bytes(answer[1:]).decode("ascii")


def together(formulas):
    """The formulas joined by &, nested no deeper than need be."""
    if len(formulas) == 1:
        return formulas[0]
    half = len(formulas) // 2
    return "(" + together(formulas[:half]) + "&" + together(formulas[half:]) + ")"


class Case(unittest.TestCase):
    """Asks a list of calls and looks at the answers."""

    def told(self, calls, expected):
        self.assertEqual(ask(calls), expected)

    def told_last(self, calls, expected):
        self.assertEqual(last(calls), expected)


# The plain ways.

def tree(formula):
    """A formula as a tuple of its sign and the trees of the formulas directly in it."""
    found, rest = tree_ahead(formula)
    if rest:
        raise ValueError("something behind")
    return found


def tree_ahead(formula):
    sign = formula[0]
    if sign in "T01234567":
        return (sign,), formula[1:]
    if sign in "~EC":
        inner, rest = tree_ahead(formula[1:])
        return (sign, inner), rest
    if sign == "K":
        inner, rest = tree_ahead(formula[2:])
        return ("K" + formula[1], inner), rest
    first, rest = tree_ahead(formula[1:])
    if sign == "[":
        second, rest = tree_ahead(rest[1:])
        return ("[", first, second), rest
    second, behind = tree_ahead(rest[1:])
    return (rest[0], first, second), behind[1:]


def spell(node):
    sign = node[0]
    if sign in "&|":
        return "(" + spell(node[1]) + sign + spell(node[2]) + ")"
    if sign == "[":
        return "[" + spell(node[1]) + "]" + spell(node[2])
    return sign + "".join(spell(part) for part in node[1:])


def size(node):
    return 1 + sum(size(part) for part in node[1:])


def depth(node):
    return 1 + max((depth(part) for part in node[1:]), default=0)


def has_common(node):
    return node[0] == "C" or any(has_common(part) for part in node[1:])


def refused_common(node):
    if node[0] == "[" and has_common(node[2]):
        return True
    return any(refused_common(part) for part in node[1:])


def plain_reduced(node):
    parts = [plain_reduced(part) for part in node[1:]]
    if node[0] == "[":
        return plain_behind(parts[1], parts[0])
    return (node[0], *parts)


def plain_behind(node, told):
    if node[0] == "T":
        return node
    if node[0] in "&|":
        return (node[0], plain_behind(node[1], told), plain_behind(node[2], told))
    return ("|", ("~", told), (node[0], *[plain_behind(part, told) for part in node[1:]]))


def plain_where(masks, links, node):
    """The set of states where the formula holds; masks by number, links a set of triples."""
    return {number for number in masks if plain_holds(masks, links, number, node)}


def plain_only(masks, links, kept):
    return ({number: masks[number] for number in masks if number in kept},
            {each for each in links if each[1] in kept and each[2] in kept})


def plain_chained(links, number):
    """The states to which a chain of one link or more leads."""
    found = set()
    ends = {number}
    while ends:
        ends = {end for agent, start, end in links if start in ends} - found
        found |= ends
    return found


def plain_holds(masks, links, number, node):
    sign = node[0]
    if sign == "T":
        return True
    if sign in "01234567":
        return masks[number] // 2 ** int(sign) % 2 == 1
    if sign == "~":
        return not plain_holds(masks, links, number, node[1])
    if sign == "&":
        return all(plain_holds(masks, links, number, part) for part in node[1:])
    if sign == "|":
        return any(plain_holds(masks, links, number, part) for part in node[1:])
    if sign == "[":
        if not plain_holds(masks, links, number, node[1]):
            return True
        kept = plain_only(masks, links, plain_where(masks, links, node[1]))
        return plain_holds(*kept, number, node[2])
    if sign == "C":
        seen = plain_chained(links, number)
    else:
        agents = range(4) if sign == "E" else ["abcd".index(sign[1])]
        seen = {end for agent, start, end in links if start == number and agent in agents}
    return all(plain_holds(masks, links, end, node[1]) for end in seen)


class Maker:
    """Makes formulas and models, the same ones every time."""

    def __init__(self, seed):
        self.random = random.Random(seed)

    def formula(self, deepest, signs="T0123~~&|KKEC[["):
        ends = [sign for sign in signs if sign in "T01234567"]
        sign = self.random.choice(signs if deepest > 1 else ends)
        if sign in "T01234567":
            return sign
        first = self.formula(deepest - 1, signs)
        if sign in "~EC":
            return sign + first
        if sign == "K":
            return sign + self.random.choice("abcd") + first
        second = self.formula(deepest - 1, signs)
        if sign == "[":
            return "[" + first + "]" + second
        return "(" + first + sign + second + ")"

    def model(self, states, links, atoms=4):
        """A model's masks, links, and the calls that make it."""
        masks = {number: self.random.randrange(2 ** atoms) for number in range(1, states + 1)}
        found = set()
        for each in range(links):
            found.add((self.random.randrange(4), self.random.randint(1, states), self.random.randint(1, states)))
        calls = [state(mask) for mask in masks.values()]
        calls += [link(*each) for each in sorted(found)]
        return masks, found, calls
