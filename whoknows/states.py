"""A model of what is so and who takes what for possible, and the calls that make it or show it as it is."""

from whoknows.holding import AGENTS, states_where
from whoknows.refusals import LINKED, NO_ROOM, NO_STATE, NOT_LINKED, NOTHING_TO_UNDO, WRONG

MASKS = 256
MOST_STATES = 16
MOST_LINKS = 200


class Model:
    """The states with their masks, the links, and which state is so (0: none)."""

    def __init__(self):
        # States come in the order of their numbers, so a walk through masks is in that order too.
        self.masks = {}
        self.links = {}
        self.actual = 0
        self.last_number = 0
        # What the model was before each change that undo may still take back.
        self.past = []

    def state(self, mask):
        """Makes a new state."""
        if not 0 <= mask < MASKS:
            return [WRONG]
        if len(self.masks) >= MOST_STATES:
            return [NO_ROOM]
        return [0, self.add_state(mask)]

    def link(self, agent, start, end):
        """Lets the agent take the state end for possible in the state start."""
        if not is_agent_number(agent):
            return [WRONG]
        if start not in self.masks or end not in self.masks:
            return [NO_STATE]
        if (agent, start, end) in self.links:
            return [LINKED]
        if len(self.links) >= MOST_LINKS:
            return [NO_ROOM]
        self.links[(agent, start, end)] = True
        return [0]

    def unlink(self, agent, start, end):
        """Takes a link away."""
        if (agent, start, end) not in self.links:
            return [NOT_LINKED]
        self.links.pop((agent, start, end))
        return [0]

    def drop(self, number):
        """Takes a state away."""
        if number not in self.masks:
            return [NO_STATE]
        self.keep_only([other for other in self.masks if other != number])
        return [0]

    def so(self, number):
        """Tells which state is so."""
        if number not in self.masks:
            return [NO_STATE]
        self.actual = number
        return [0]

    def undo(self):
        """Takes the last change back that isn't taken back yet."""
        if not self.past:
            return [NOTHING_TO_UNDO]
        # The last number given stays: no number is given twice.
        before = self.past.pop()
        self.masks = before[0]
        self.links = before[1]
        self.actual = before[2]
        return [0]

    def whole(self):
        """Tells all that the model is."""
        answer = [0, self.actual, len(self.masks)]
        for number, mask in self.masks.items():
            answer.extend([number, mask])
        answer.append(len(self.links))
        for agent, start, end in sorted(self.links):
            answer.extend([agent, start, end])
        return answer

    def add_state(self, mask):
        """The number of a state added."""
        self.last_number = self.last_number + 1
        self.masks[self.last_number] = mask
        return self.last_number

    def as_it_is(self):
        """What undo brings back."""
        return (dict(self.masks), dict(self.links), self.actual)

    def where(self, signs):
        """The states in which the formula holds."""
        return states_where(self.masks, self.links, signs)

    def taken_for_possible(self, agent):
        """The states that the agent takes for possible in the state that is so."""
        return [end for who, start, end in self.links if who == agent and start == self.actual]

    def keep_only(self, numbers):
        """Keeps only these states, in order, and the links between them."""
        masks_left = {}
        for number in numbers:
            masks_left[number] = self.masks[number]
        links_left = {}
        for agent, start, end in self.links:
            if start in masks_left and end in masks_left:
                links_left[(agent, start, end)] = True
        self.masks = masks_left
        self.links = links_left
        if self.actual not in masks_left:
            self.actual = 0


def is_agent_number(agent):
    """Whether there is an agent of that number."""
    return 0 <= agent < AGENTS
