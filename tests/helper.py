"""What the tests share: calls as lists, answers call by call, and the document's words done plainly.

The plain ways here follow the document by recursion over whole texts and sets of states; they share no
code with the program.
"""

import random
import unittest

from whoknows.model import answers

LEAST = -1000000000
GREATEST = 1000000000


def state(mask):
    return [0, mask]


def link(agent, start, end):
    return [1, agent, start, end]


def unlink(agent, start, end):
    return [2, agent, start, end]


def drop(number):
    return [3, number]


def so(number):
    return [4, number]


def with_formula(call, formula, *numbers):
    codes = list(formula.encode("ascii")) if isinstance(formula, str) else list(formula)
    return [call, *numbers, len(codes)] + codes


def holds(formula):
    return with_formula(5, formula)


def truth(formula):
    return with_formula(6, formula)


def reduce(formula):
    return with_formula(7, formula)


def tell(formula):
    return with_formula(8, formula)


def whisper(agent, formula):
    return with_formula(9, formula, agent)


def show(agent, formula):
    return with_formula(10, formula, agent)


def again(formula):
    return with_formula(11, formula)


def alike(first, second):
    return [12, first, second]


def least():
    return [13]


def chain(formula):
    return with_formula(14, formula)


def minds(formula):
    return with_formula(15, formula)


def undo():
    return [16]


def model():
    return [17]


def whole(actual, masks, links):
    """What model answers; masks by number."""
    states = [number for pair in sorted(masks.items()) for number in pair]
    return [0, actual, len(masks)] + states + [len(links)] + [number for each in sorted(links) for number in each]


def flat(calls):
    return [number for call in calls for number in call]


def cut(given):
    """The answers, a list for each call."""
    found = []
    place = 0
    while place < len(given):
        count = given[place]
        found.append(given[place + 1:place + 1 + count])
        if len(found[-1]) != count or count < 1:
            raise ValueError("the answers don't stand as counted")
        place += 1 + count
    return found


def ask(calls):
    """The answers to a list of calls, a list for each call."""
    found = cut(answers(flat(calls)))
    if len(found) != len(calls):
        raise ValueError("not an answer for each call")
    return found


def last(calls):
    return ask(calls)[-1]


def behind(made, calls):
    """The answers to the calls alone, asked behind those that make a model."""
    return ask(made + calls)[len(made):]


def text(answer):
    """The formula in an answer of reduce."""
    if answer[0] != 0:
        raise ValueError(f"refused: {answer}")
    return bytes(answer[1:]).decode("ascii")


def together(formulas):
    """The formulas joined by &, nested no deeper than need be."""
    if len(formulas) == 1:
        return formulas[0]
    half = len(formulas) // 2
    return "(" + together(formulas[:half]) + "&" + together(formulas[half:]) + ")"


class Case(unittest.TestCase):
    """Asks a list of calls and looks at the answers."""

    def told(self, calls, expected):
        self.assertEqual(ask(calls), expected)

    def told_last(self, calls, expected):
        self.assertEqual(last(calls), expected)

    def told_behind(self, made, calls, expected):
        self.assertEqual(behind(made, calls), expected)


# The plain ways.

def tree(formula):
    """A formula as a tuple of its sign and the trees of the formulas directly in it."""
    found, rest = tree_ahead(formula)
    if rest:
        raise ValueError("something behind")
    return found


def tree_ahead(formula):
    sign = formula[0]
    if sign in "T01234567":
        return (sign,), formula[1:]
    if sign in "~EC":
        inner, rest = tree_ahead(formula[1:])
        return (sign, inner), rest
    if sign == "K":
        inner, rest = tree_ahead(formula[2:])
        return ("K" + formula[1], inner), rest
    first, rest = tree_ahead(formula[1:])
    if sign == "[":
        second, rest = tree_ahead(rest[1:])
        return ("[", first, second), rest
    second, after = tree_ahead(rest[1:])
    return (rest[0], first, second), after[1:]


def plain_read(formula):
    """The tree of what may be no formula; None if it's none."""
    try:
        node = tree(formula)
    except (ValueError, IndexError):
        return None
    return node if spell(node) == formula and all(name in "abcd" for name in agents_in(node)) else None


def agents_in(node):
    return node[0][1:] + "".join(agents_in(part) for part in node[1:])


def spell(node):
    sign = node[0]
    if sign in "&|":
        return "(" + spell(node[1]) + sign + spell(node[2]) + ")"
    if sign == "[":
        return "[" + spell(node[1]) + "]" + spell(node[2])
    return sign + "".join(spell(part) for part in node[1:])


def size(node):
    return 1 + sum(size(part) for part in node[1:])


def depth(node):
    return 1 + max((depth(part) for part in node[1:]), default=0)


def has_common(node):
    return node[0] == "C" or any(has_common(part) for part in node[1:])


def refused_common(node):
    if node[0] == "[" and has_common(node[2]):
        return True
    return any(refused_common(part) for part in node[1:])


def plain_reduced(node):
    parts = [plain_reduced(part) for part in node[1:]]
    if node[0] == "[":
        return plain_behind(parts[1], parts[0])
    return (node[0], *parts)


def plain_behind(node, told):
    if node[0] == "T":
        return node
    if node[0] in "&|":
        return (node[0], plain_behind(node[1], told), plain_behind(node[2], told))
    return ("|", ("~", told), (node[0], *[plain_behind(part, told) for part in node[1:]]))


def plain_where(masks, links, node):
    """The set of states where the formula holds; masks by number, links a set of triples."""
    return {number for number in masks if plain_holds(masks, links, number, node)}


def plain_only(masks, links, kept):
    return ({number: masks[number] for number in masks if number in kept},
            {each for each in links if each[1] in kept and each[2] in kept})


def plain_chained(links, number):
    """The states to which a chain of one link or more leads."""
    found = set()
    ends = {number}
    while ends:
        ends = {end for agent, start, end in links if start in ends} - found
        found |= ends
    return found


def plain_holds(masks, links, number, node):
    sign = node[0]
    if sign == "T":
        return True
    if sign in "01234567":
        return masks[number] // 2 ** int(sign) % 2 == 1
    if sign == "~":
        return not plain_holds(masks, links, number, node[1])
    if sign == "&":
        return all(plain_holds(masks, links, number, part) for part in node[1:])
    if sign == "|":
        return any(plain_holds(masks, links, number, part) for part in node[1:])
    if sign == "[":
        if not plain_holds(masks, links, number, node[1]):
            return True
        kept = plain_only(masks, links, plain_where(masks, links, node[1]))
        return plain_holds(*kept, number, node[2])
    if sign == "C":
        seen = plain_chained(links, number)
    else:
        agents = range(4) if sign == "E" else ["abcd".index(sign[1])]
        seen = {end for agent, start, end in links if start == number and agent in agents}
    return all(plain_holds(masks, links, end, node[1]) for end in seen)


def plain_seen(links, agent, number):
    """The states that the agent takes for possible there, in order."""
    return sorted(end for who, start, end in links if who == agent and start == number)


def plain_rounds(masks, links):
    """The sets of pairs of each round, the last one being that of the pairs alike."""
    rounds = [{(u, v) for u in masks for v in masks if masks[u] == masks[v]}]
    while True:
        before = rounds[-1]
        kept = {(u, v) for u, v in before if all(
            all(any((x, y) in before for y in plain_seen(links, agent, v)) for x in plain_seen(links, agent, u))
            and all(any((x, y) in before for x in plain_seen(links, agent, u)) for y in plain_seen(links, agent, v))
            for agent in range(4))}
        if kept == before:
            return rounds
        rounds.append(kept)


def plain_gone(rounds, u, v):
    return next((count for count, pairs in enumerate(rounds) if (u, v) not in pairs), None)


class PlainParting:
    """The formulas that part states, and whether they're too long; each is found once."""

    def __init__(self, masks, links):
        self.masks = masks
        self.links = links
        self.rounds = plain_rounds(masks, links)
        self.found = {}

    def formula(self, u, v):
        """The formula that parts u from v, as a tree; None if it's too long."""
        if (u, v) not in self.found:
            node = self.made(u, v, plain_gone(self.rounds, u, v))
            self.found[(u, v)] = None if node is None or size(node) > 300 else node
        return self.found[(u, v)]

    def made(self, u, v, count):
        if count == 0:
            atom = min(atom for atom in range(8) if (self.masks[u] ^ self.masks[v]) // 2 ** atom % 2 == 1)
            here = self.masks[u] // 2 ** atom % 2 == 1
            return (str(atom),) if here else ("~", (str(atom),))
        for agent in range(4):
            there = plain_seen(self.links, agent, v)
            for x in plain_seen(self.links, agent, u):
                if all(plain_gone(self.rounds[:count], x, y) is not None for y in there):
                    inner = self.joined("&", ("T",), [(x, y) for y in there])
                    return inner and ("~", ("K" + "abcd"[agent], ("~", inner)))
        for agent in range(4):
            here = plain_seen(self.links, agent, u)
            for y in plain_seen(self.links, agent, v):
                if all(plain_gone(self.rounds[:count], x, y) is not None for x in here):
                    inner = self.joined("|", ("~", ("T",)), [(x, y) for x in here])
                    return inner and ("K" + "abcd"[agent], inner)
        raise ValueError("nothing parts them")

    def joined(self, sign, empty, pairs):
        formulas = [self.formula(x, y) for x, y in pairs]
        if None in formulas:
            return None
        if not formulas:
            return empty
        node = formulas[-1]
        for each in reversed(formulas[:-1]):
            node = (sign, each, node)
            if size(node) > 300:
                return None
        return node


class Plain:
    """A model, and the calls on it as the document's words say them."""

    def __init__(self):
        self.masks = {}
        self.links = set()
        self.actual = 0
        self.numbers = 0
        self.past = []

    def answer(self, call):
        """The answer to one call; refused or not, undo is seen to."""
        names = ("state link unlink drop so holds truth reduce tell whisper show again alike least chain minds undo "
                 "model").split()
        kept = (dict(self.masks), set(self.links), self.actual)
        found = self.asked(names[call[0]], call)
        if found[0] == 0 and call[0] in (8, 9, 10, 11, 13):
            self.past.append(kept)
        if found[0] == 0 and call[0] <= 4:
            self.past = []
        return found

    def asked(self, name, call):
        if call[0] not in (5, 6, 7, 8, 9, 10, 11, 14, 15):
            return getattr(self, name)(*call[1:])
        numbers = call[1:2] if call[0] in (9, 10) else []
        codes = call[2 + len(numbers):]
        node = plain_read(bytes(codes).decode("latin-1"))
        if numbers and numbers[0] not in range(4) or node is None:
            return [-1]
        if depth(node) > 40:
            return [-2]
        if self.actual == 0 and call[0] not in (5, 7, 10):
            return [-7]
        where = plain_where(self.masks, self.links, node) if call[0] != 7 else None
        if call[0] in (8, 9) and self.actual not in where:
            return [-10]
        return getattr(self, name)(*numbers, *([node] if call[0] in (7, 11) else [where]))

    def state(self, mask):
        if mask not in range(256):
            return [-1]
        if len(self.masks) == 16:
            return [-3]
        self.numbers += 1
        self.masks[self.numbers] = mask
        return [0, self.numbers]

    def link(self, agent, start, end):
        if agent not in range(4):
            return [-1]
        if not {start, end} <= set(self.masks):
            return [-4]
        if (agent, start, end) in self.links:
            return [-5]
        if len(self.links) == 200:
            return [-3]
        self.links.add((agent, start, end))
        return [0]

    def unlink(self, agent, start, end):
        if (agent, start, end) not in self.links:
            return [-6]
        self.links.remove((agent, start, end))
        return [0]

    def drop(self, number):
        if number not in self.masks:
            return [-4]
        self.only(set(self.masks) - {number})
        return [0]

    def only(self, kept):
        self.masks, self.links = plain_only(self.masks, self.links, kept)
        self.actual = self.actual if self.actual in kept else 0

    def so(self, number):
        if number not in self.masks:
            return [-4]
        self.actual = number
        return [0]

    def holds(self, where):
        return [0] + sorted(where)

    def truth(self, where):
        return [0, int(self.actual in where)]

    def reduce(self, node):
        if refused_common(node):
            return [-8]
        return [-9] if size(plain_reduced(node)) > 3000 else [0] + list(spell(plain_reduced(node)).encode())

    def tell(self, where):
        self.only(where)
        return [0, len(where)]

    def whisper(self, agent, where):
        copies = {number: self.numbers + 1 + place for place, number in enumerate(sorted(where))}
        masks = {copies[number]: self.masks[number] for number in sorted(where)}
        links = set()
        for number in where:
            for who in range(4):
                for seen in plain_seen(self.links, who, number):
                    if who != agent:
                        links.add((who, copies[number], seen))
                    elif seen in copies:
                        links.add((who, copies[number], copies[seen]))
        if len(self.masks) + len(masks) > 16 or len(self.links) + len(links) > 200:
            return [-3]
        self.masks = {**self.masks, **masks}
        self.links = self.links | links
        self.numbers += len(copies)
        self.actual = copies[self.actual]
        return [0, self.actual]

    def show(self, agent, where):
        gone = {each for each in self.links if each[0] == agent and len({each[1], each[2]} & where) == 1
                and each[1] != each[2]}
        self.links = self.links - gone
        return [0, len(gone)]

    def again(self, node):
        times = 0
        while True:
            where = plain_where(self.masks, self.links, node)
            if self.actual not in where or len(where) == len(self.masks):
                return [0, times, len(self.masks)]
            self.only(where)
            times += 1

    def alike(self, u, v):
        if not {u, v} <= set(self.masks):
            return [-4]
        parting = PlainParting(self.masks, self.links)
        count = plain_gone(parting.rounds, u, v)
        if count is None:
            return [0, 1]
        node = parting.formula(u, v)
        return [-9] if node is None else [0, 0, count] + list(spell(node).encode())

    def least(self):
        if self.actual == 0:
            return [-7]
        self.only({self.actual} | plain_chained(self.links, self.actual))
        pairs = plain_rounds(self.masks, self.links)[-1]
        made = {u: min(v for v in self.masks if (u, v) in pairs) for u in self.masks}
        self.masks = {number: mask for number, mask in self.masks.items() if made[number] == number}
        self.links = {(agent, made[start], made[end]) for agent, start, end in self.links}
        self.actual = made[self.actual]
        return [0, len(self.masks)]

    def chain(self, where):
        """All chains, length by length, in order; each state is gone on from by the first chain to it alone."""
        chains = [[self.actual]]
        come = {self.actual}
        while chains:
            longer = [found + [agent, end] for found in chains for agent in range(4)
                      for end in plain_seen(self.links, agent, found[-1])]
            for found in longer:
                if found[-1] not in where:
                    return [0] + found[1:]
            chains = []
            for found in longer:
                if found[-1] not in come:
                    come.add(found[-1])
                    chains.append(found)
        return [-11]

    def minds(self, where):
        found = [0]
        for agent in range(4):
            seen = set(plain_seen(self.links, agent, self.actual))
            found.append((1 if seen <= where else 0) + (0 if seen & where else 2))
        return found

    def undo(self):
        if not self.past:
            return [-12]
        self.masks, self.links, self.actual = self.past.pop()
        return [0]

    def model(self):
        return whole(self.actual, self.masks, self.links)


def plain_answers(calls):
    """The answers to a list of calls, a list for each call."""
    found = Plain()
    return [found.answer(call) for call in calls]


class Maker:
    """Makes formulas and models, the same ones every time."""

    def __init__(self, seed):
        self.random = random.Random(seed)

    def formula(self, deepest, signs="T0123~~&|KKEC[["):
        ends = [sign for sign in signs if sign in "T01234567"]
        sign = self.random.choice(signs if deepest > 1 else ends)
        if sign in "T01234567":
            return sign
        first = self.formula(deepest - 1, signs)
        if sign in "~EC":
            return sign + first
        if sign == "K":
            return sign + self.random.choice("abcd") + first
        second = self.formula(deepest - 1, signs)
        if sign == "[":
            return "[" + first + "]" + second
        return "(" + first + sign + second + ")"

    def model(self, states, links, atoms=4, agents=4):
        """A model's masks, links, and the calls that make it."""
        masks = {number: self.random.randrange(2 ** atoms) for number in range(1, states + 1)}
        found = set()
        for each in range(links):
            found.add((self.random.randrange(agents), self.random.randint(1, states), self.random.randint(1, states)))
        calls = [state(mask) for mask in masks.values()]
        calls += [link(*each) for each in sorted(found)]
        return masks, found, calls

    def sparse_model(self, fewest):
        """A model of few links, atoms and agents, so that states are alike or part late."""
        states = self.random.randint(fewest, 10)
        links = self.random.randint(0, 3 * states)
        return self.model(states, links, self.random.choice([0, 0, 1]), self.random.choice([1, 1, 2, 4]))
