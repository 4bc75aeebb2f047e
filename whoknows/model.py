"""A model of what is so and who takes what for possible, and the calls on it."""

from whoknows.holding import states_where
from whoknows.reading import codes_of, depth_of, signs_of
from whoknows.reducing import reduced, tells_common

STATE = 0
LINK = 1
UNLINK = 2
DROP = 3
HOLDS = 5
TRUTH = 6
REDUCE = 7

# How many whole numbers each call has, by its number; those from holds on have a formula behind them.
NUMBERS = (1, 3, 3, 1, 1, 0, 0, 0, 0)

WRONG = -1
TOO_DEEP = -2
NO_ROOM = -3
NO_STATE = -4
LINKED = -5
NOT_LINKED = -6
NONE_IS_SO = -7
COMMON_TOLD = -8
TOO_LARGE = -9
NOT_SO = -10

MASKS = 256
AGENTS = 4
MOST_STATES = 16
MOST_LINKS = 200
DEEPEST = 40


class Model:
    """The states with their masks, the links, and which state is so (0: none)."""

    def __init__(self):
        # States come in the order of their numbers, so a walk through masks is in that order too.
        self.masks = {}
        self.links = {}
        self.actual = 0
        self.last_number = 0

    def state(self, mask):
        """Makes a new state."""
        if not 0 <= mask < MASKS:
            return [WRONG]
        if len(self.masks) >= MOST_STATES:
            return [NO_ROOM]
        self.last_number = self.last_number + 1
        self.masks[self.last_number] = mask
        return [0, self.last_number]

    def link(self, agent, start, end):
        """Lets the agent take the state end for possible in the state start."""
        if not 0 <= agent < AGENTS:
            return [WRONG]
        if start not in self.masks or end not in self.masks:
            return [NO_STATE]
        if (agent, start, end) in self.links:
            return [LINKED]
        if len(self.links) >= MOST_LINKS:
            return [NO_ROOM]
        self.links[(agent, start, end)] = True
        return [0]

    def unlink(self, agent, start, end):
        """Takes a link away."""
        if (agent, start, end) not in self.links:
            return [NOT_LINKED]
        self.links.pop((agent, start, end))
        return [0]

    def drop(self, number):
        """Takes a state away."""
        if number not in self.masks:
            return [NO_STATE]
        self.keep_only([other for other in self.masks if other != number])
        return [0]

    def so(self, number):
        """Tells which state is so."""
        if number not in self.masks:
            return [NO_STATE]
        self.actual = number
        return [0]

    def holds(self, signs):
        """Tells where the formula holds."""
        return [0] + self.where(signs)

    def truth(self, signs):
        """Tells whether the formula holds in the state that is so."""
        if self.actual == 0:
            return [NONE_IS_SO]
        return [0, 1 if self.actual in self.where(signs) else 0]

    def tell(self, signs):
        """Keeps only the states where the formula holds."""
        if self.actual == 0:
            return [NONE_IS_SO]
        left = self.where(signs)
        if self.actual not in left:
            return [NOT_SO]
        self.keep_only(left)
        return [0, len(left)]

    def where(self, signs):
        """The states in which the formula holds."""
        return states_where(self.masks, self.links, signs)

    def keep_only(self, numbers):
        """Keeps only these states, in order, and the links between them."""
        masks_left = {}
        for number in numbers:
            masks_left[number] = self.masks[number]
        links_left = {}
        for agent, start, end in self.links:
            if start in masks_left and end in masks_left:
                links_left[(agent, start, end)] = True
        self.masks = masks_left
        self.links = links_left
        if self.actual not in masks_left:
            self.actual = 0


def reduce_answer(signs):
    """Answers the formula reduced."""
    if tells_common(signs):
        return [COMMON_TOLD]
    shorter = reduced(signs)
    if shorter is None:
        return [TOO_LARGE]
    return [0] + codes_of(shorter)


def number_answer(model, call, numbers):
    """Answers a call that has whole numbers alone."""
    if call == STATE:
        return model.state(numbers[0])
    if call == LINK:
        return model.link(numbers[0], numbers[1], numbers[2])
    if call == UNLINK:
        return model.unlink(numbers[0], numbers[1], numbers[2])
    if call == DROP:
        return model.drop(numbers[0])
    return model.so(numbers[0])


def formula_answer(model, call, codes):
    """Answers a call that has a formula."""
    signs = signs_of(codes)
    if signs is None:
        return [WRONG]
    if depth_of(signs) > DEEPEST:
        return [TOO_DEEP]
    if call == HOLDS:
        return model.holds(signs)
    if call == TRUTH:
        return model.truth(signs)
    if call == REDUCE:
        return reduce_answer(signs)
    return model.tell(signs)


def answers(calls):
    """Answers the calls, one behind another, on a new model."""
    model = Model()
    given = []
    place = 0
    while place < len(calls):
        call = calls[place]
        start = place + 1
        place = start + NUMBERS[call]
        if call < HOLDS:
            answer = number_answer(model, call, calls[start:place])
        else:
            start = place + 1
            place = start + calls[place]
            answer = formula_answer(model, call, calls[start:place])
        given.append(len(answer))
        given.extend(answer)
    return given
