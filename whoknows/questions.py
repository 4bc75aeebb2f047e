"""What is asked of a model and changes nothing."""

from whoknows.chains import chain_out_of
from whoknows.holding import AGENTS, View
from whoknows.likeness import parting, round_gone, rounds_of
from whoknows.reading import codes_of
from whoknows.reducing import reduced, tells_common
from whoknows.refusals import COMMON_TOLD, NO_CHAIN, NO_STATE, NONE_IS_SO, TOO_LARGE


def holds(model, signs):
    """Tells where the formula holds."""
    return [0] + model.where(signs)


def truth(model, signs):
    """Tells whether the formula holds in the state that is so."""
    if model.actual == 0:
        return [NONE_IS_SO]
    return [0, 1 if model.actual in model.where(signs) else 0]


def reduction(signs):
    """Tells the formula reduced."""
    if tells_common(signs):
        return [COMMON_TOLD]
    shorter = reduced(signs)
    if shorter is None:
        return [TOO_LARGE]
    return [0] + codes_of(shorter)


def alike(model, first, second):
    """Tells whether two states are alike, or else what parts them."""
    if first not in model.masks or second not in model.masks:
        return [NO_STATE]
    view = View(model.masks, model.links)
    here = view.numbers.index(first)
    there = view.numbers.index(second)
    rounds = rounds_of(view)
    gone = round_gone(rounds, here, there)
    if gone is None:
        return [0, 1]
    signs = parting(view, rounds, here, there)
    if signs is None:
        return [TOO_LARGE]
    return [0, 0, gone] + codes_of(signs)


def chain(model, signs):
    """Tells a shortest chain from the state that is so to one where the formula doesn't hold."""
    if model.actual == 0:
        return [NONE_IS_SO]
    found = chain_out_of(model.links, model.actual, model.where(signs))
    if found is None:
        return [NO_CHAIN]
    return [0] + found


def minds(model, signs):
    """Tells for each agent whether it takes the formula for true, for false, for both or for neither."""
    if model.actual == 0:
        return [NONE_IS_SO]
    where = model.where(signs)
    return [0] + [mind(model.taken_for_possible(agent), where) for agent in range(AGENTS)]


def mind(possible, where):
    """1 if all that is possible is where the formula holds, and 2 more if none of it is."""
    held = len([number for number in possible if number in where])
    return (1 if held == len(possible) else 0) + (2 if held == 0 else 0)
