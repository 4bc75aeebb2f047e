"""What is told, whispered, shown and told again; and the least model that says the same."""

from whoknows.chains import chains_from
from whoknows.holding import View
from whoknows.likeness import least_alike
from whoknows.refusals import NO_ROOM, NONE_IS_SO, NOT_SO
from whoknows.states import MOST_LINKS, MOST_STATES


def tell(model, signs):
    """Keeps only the states where the formula holds."""
    if model.actual == 0:
        return [NONE_IS_SO]
    left = model.where(signs)
    if model.actual not in left:
        return [NOT_SO]
    model.keep_only(left)
    return [0, len(left)]


def whisper(model, agent, signs):
    """Lets the agent alone learn the formula, in copies of the states where it holds."""
    if model.actual == 0:
        return [NONE_IS_SO]
    copied = model.where(signs)
    if model.actual not in copied:
        return [NOT_SO]
    copies = {}
    for place, number in enumerate(copied, start=1):
        copies[number] = model.last_number + place
    added = links_of_copies(model.links, agent, copies)
    if len(model.masks) + len(copied) > MOST_STATES or len(model.links) + len(added) > MOST_LINKS:
        return [NO_ROOM]
    for number in copied:
        model.add_state(model.masks[number])
    for each in added:
        model.links[each] = True
    model.actual = copies[model.actual]
    return [0, model.actual]


def links_of_copies(links, agent, copies):
    """The links from the copies: the agent's to other copies, those of the others to the old states."""
    found = []
    for who, start, end in links:
        if start in copies and who != agent:
            found.append((who, copies[start], end))
        elif start in copies and end in copies:
            found.append((who, copies[start], copies[end]))
    return found


def show(model, agent, signs):
    """Takes the agent's links away between states where the formula holds and states where it doesn't."""
    where = model.where(signs)
    left = {}
    for who, start, end in model.links:
        if who != agent or (start in where) == (end in where):
            left[(who, start, end)] = True
    gone = len(model.links) - len(left)
    model.links = left
    return [0, gone]


def again(model, signs):
    """Tells the formula as long as it holds in the state that is so and a state goes by it."""
    if model.actual == 0:
        return [NONE_IS_SO]
    times = 0
    left = model.where(signs)
    while model.actual in left and len(left) < len(model.masks):
        model.keep_only(left)
        times = times + 1
        left = model.where(signs)
    return [0, times, len(model.masks)]


def least(model):
    """Keeps only what chains lead to from the state that is so, and of states alike only one."""
    if model.actual == 0:
        return [NONE_IS_SO]
    model.keep_only(sorted(chains_from(model.links, model.actual)))
    made_to = least_alike(View(model.masks, model.links))
    links = {}
    for agent, start, end in model.links:
        links[(agent, made_to[start], made_to[end])] = True
    model.actual = made_to[model.actual]
    # What is kept is what others are made to, so no link of these goes.
    model.links = links
    model.keep_only([number for number in model.masks if made_to[number] == number])
    return [0, len(model.masks)]
