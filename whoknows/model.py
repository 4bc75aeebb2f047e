"""The calls on one model, one behind another."""

from whoknows.changes import again, least, show, tell, whisper
from whoknows.questions import alike, chain, holds, minds, reduction, truth
from whoknows.reading import depth_of, signs_of
from whoknows.refusals import TOO_DEEP, WRONG
from whoknows.states import Model, is_agent_number

STATE = 0
LINK = 1
UNLINK = 2
DROP = 3
SO = 4
HOLDS = 5
TRUTH = 6
REDUCE = 7
TELL = 8
WHISPER = 9
SHOW = 10
AGAIN = 11
ALIKE = 12
LEAST = 13
CHAIN = 14
MINDS = 15
UNDO = 16

# How many whole numbers each call has, by its number.
NUMBERS = (1, 3, 3, 1, 1, 0, 0, 0, 0, 1, 1, 0, 2, 0, 0, 0, 0, 0)

DEEPEST = 40


def has_formula(call):
    """Whether the call has a formula behind its whole numbers."""
    return call in (HOLDS, TRUTH, REDUCE, TELL, WHISPER, SHOW, AGAIN, CHAIN, MINDS)


def number_answer(model, call, numbers):
    """Answers a call that has no formula."""
    if call == STATE:
        return model.state(numbers[0])
    if call == LINK:
        return model.link(numbers[0], numbers[1], numbers[2])
    if call == UNLINK:
        return model.unlink(numbers[0], numbers[1], numbers[2])
    if call == DROP:
        return model.drop(numbers[0])
    if call == SO:
        return model.so(numbers[0])
    if call == ALIKE:
        return alike(model, numbers[0], numbers[1])
    if call == LEAST:
        return least(model)
    if call == UNDO:
        return model.undo()
    return model.whole()


def formula_answer(model, call, numbers, codes):
    """Answers a call that has a formula; of whole numbers it has none, or an agent alone."""
    if not all([is_agent_number(agent) for agent in numbers]):
        return [WRONG]
    signs = signs_of(codes)
    if signs is None:
        return [WRONG]
    if depth_of(signs) > DEEPEST:
        return [TOO_DEEP]
    if call == WHISPER:
        return whisper(model, numbers[0], signs)
    if call == SHOW:
        return show(model, numbers[0], signs)
    if call == TELL:
        return tell(model, signs)
    if call == AGAIN:
        return again(model, signs)
    return question_answer(model, call, signs)


def question_answer(model, call, signs):
    """Answers a call that has a formula and changes nothing."""
    if call == HOLDS:
        return holds(model, signs)
    if call == TRUTH:
        return truth(model, signs)
    if call == REDUCE:
        return reduction(signs)
    if call == CHAIN:
        return chain(model, signs)
    return minds(model, signs)


def remember(model, call, before):
    """Keeps for undo what the model was before an accepted call."""
    if call in (TELL, WHISPER, SHOW, AGAIN, LEAST):
        model.past.append(before)
    elif call in (STATE, LINK, UNLINK, DROP, SO):
        # Undo takes nothing back from before the model was made otherwise.
        model.past = []


def answers(calls):
    """Answers the calls, one behind another, on a new model."""
    model = Model()
    given = []
    place = 0
    while place < len(calls):
        call = calls[place]
        start = place + 1
        place = start + NUMBERS[call]
        numbers = calls[start:place]
        before = model.as_it_is()
        if has_formula(call):
            start = place + 1
            place = start + calls[place]
            answer = formula_answer(model, call, numbers, calls[start:place])
        else:
            answer = number_answer(model, call, numbers)
        if answer[0] == 0:
            remember(model, call, before)
        given.append(len(answer))
        given.extend(answer)
    return given
