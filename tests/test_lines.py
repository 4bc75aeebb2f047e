"""Whole lines: all calls mixed, as the document's words say; and lines as long and models as large as may be."""

import time

from tests.helper import Case, Maker, again, alike, ask, chain, drop, flat, holds, least, link, minds, model, plain_answers
from tests.helper import reduce, show, so, state, tell, together, truth, undo, unlink, whisper

# A second for each call would be far too long; all of a line's are done in less.
SECONDS = 20


class Mixed(Case):
    """Random lines of all calls; each answer is compared with the document's words done plainly."""

    KINDS = (state, link, unlink, drop, so, holds, truth, reduce, tell, whisper, show, again, alike, least, chain, minds,
             undo, model)
    OFTEN = (1, 2, 1, 1, 2, 4, 4, 2, 5, 8, 6, 6, 16, 5, 8, 8, 12, 14)

    def line(self, maker):
        chance = maker.random
        states = chance.randint(1, 8)
        calls = maker.model(states, chance.randint(0, 3 * states), chance.choice([0, 1, 2]), chance.choice([2, 4]))[2]
        calls += [so(chance.randint(1, states))]
        signs = chance.choice(["T01~~&|KKEC[[", "01~~&|KK", "01~&|", "T01~~&|KKEC"])
        while len(calls) < 200:
            calls.append(self.call(maker, chance.choices(self.KINDS, self.OFTEN)[0], signs))
        return calls

    def call(self, maker, kind, signs):
        chance = maker.random
        agent = chance.randrange(4) if chance.random() < 0.95 else chance.choice([-1, 4])
        numbers = [chance.choice([chance.randint(1, 8), chance.randint(1, 25)]) for each in range(2)]
        formula = maker.formula(chance.randint(1, 4), signs)
        if chance.random() < 0.05:
            formula = chance.choice([formula[1:], formula + "0", "~" * 40 + formula])
        if kind == state:
            return state(chance.choice([0, 1, 2, 3, 255, 256]))
        if kind in (link, unlink):
            return kind(agent, *numbers)
        if kind in (drop, so):
            return kind(numbers[0])
        if kind in (whisper, show):
            return kind(agent, formula)
        if kind == alike:
            return alike(*numbers)
        return kind() if kind in (least, undo, model) else kind(formula)

    def test_many_lines(self):
        maker = Maker(101)
        seen = {}
        for each in range(250):
            calls = self.line(maker)
            for call, answer, expected in zip(calls, ask(calls), plain_answers(calls)):
                self.assertEqual(answer, expected, call)
                seen[(call[0], answer[0])] = seen.get((call[0], answer[0]), 0) + 1
        for call, answers in ((9, (-1, -2, -3, -7, -10, 0)), (10, (-1, -2, 0)), (11, (-1, -2, -7, 0)), (12, (-4, 0)),
                              (13, (-7, 0)), (14, (-1, -2, -7, -11, 0)), (15, (-1, -2, -7, 0)), (16, (-12, 0)), (17, (0,))):
            self.assertEqual({found for kind, found in seen if kind == call}, set(answers))

    def test_a_story(self):
        """A coin under a cup: whispered to b, shown to a, told to all, and taken back."""
        pairs = [(agent, start, end) for agent in (0, 1, 2) for start in (1, 2) for end in (1, 2)]
        made = [state(1), state(0)] + [link(*each) for each in pairs] + [so(1)]
        calls = made + [minds("0"), whisper(1, "0"), minds("0"), truth("Ka(~Kb0&~Kb~0)"), alike(3, 1), chain("~Kb0"),
                        show(0, "0"), minds("0"), truth("CKa0"), chain("0"), undo(), tell("0"), minds("0"), truth("C0"),
                        least(), holds("T"), undo(), undo(), undo(), undo(), model()]
        expected = [[0, 0, 0, 0, 3], [0, 3], [0, 0, 1, 0, 3], [0, 1], [0, 0, 1] + list(b"Kb0"), [0, 1, 3],
                    [0, 3], [0, 1, 1, 0, 3], [0, 0], [0, 2, 2], [0], [0, 2], [0, 1, 1, 1, 3], [0, 1], [0, 1],
                    [0, 1], [0], [0], [0], [-12], ask(made + [model()])[-1]]
        self.assertEqual(ask(calls)[len(made):], expected)
        self.assertEqual(plain_answers(calls)[len(made):], expected)


class Large(Case):
    """400 calls in one list, with 16 states and 200 links."""

    def timed(self, calls):
        """The answers, if they are there in time."""
        self.assertLessEqual(len(calls), 400)
        self.assertLessEqual(len(flat(calls)), 30000)
        begun = time.perf_counter()
        found = ask(calls)
        self.assertLess(time.perf_counter() - begun, SECONDS)
        return found

    def full(self, mask=0):
        """16 states, 200 links, the last state is so."""
        found = [(agent, high, low) for agent in (0, 1) for high in range(2, 17) for low in range(1, high)]
        return [state(mask)] * 16 + [link(*each) for each in found[:200]] + [so(16)]

    def filled(self, calls):
        """The full model, and these calls over and over up to 400."""
        made = self.full()
        found = made + calls * 200
        return found[:400]

    def test_model_is_full(self):
        self.told_behind(self.full(), [state(0), link(3, 16, 16)], [[-3], [-3]])

    def test_each_call_over_and_over(self):
        deep = "Ka" * 20 + "~" * 18 + "T"
        long = together(["(Ka~T|CKb0)", "(E~0&C~Ka~T)"])
        for calls in ([model()], [alike(16, 15)], [alike(15, 16)], [alike(16, 3), alike(3, 16)], [least(), undo()],
                      [least(), model(), undo()], [chain("~Ka~T")], [chain("T")], [minds(long)], [show(0, long), undo()],
                      [again("~Ka~T"), undo()], [again(deep)], [tell("T")], [tell(long), undo()], [whisper(0, "T")],
                      [holds(long)], [truth(deep)]):
            found = self.timed(self.filled(calls))
            self.assertEqual(len(found), 400)
            answered = found[len(self.full()):]
            self.assertTrue(all(answer == answered[place % len(calls)] for place, answer in enumerate(answered))
                            or calls[0][0] == 8)

    def test_told_again_and_again_each_time_one_state_fewer(self):
        made = [state(0)] * 16 + [link(0, number, number + 1) for number in range(1, 16)]
        made += [link(agent, number, number + 1) for agent in (1, 2, 3) for number in range(1, 16)] + [so(1)]
        formula = together(["~Ka~T"] + ["(~Kb~T|C~T)"] * 22)
        found = self.timed(made + [again(formula), undo()] * 80)
        self.assertEqual(found[len(made):], [[0, 15, 1], [0]] * 80)

    def test_pairs_that_go_late(self):
        made = [state(0)] * 16 + [link(agent, number, number + 1) for agent in range(4) for number in range(1, 16)]
        found = self.timed(made + [alike(1, 2)] * (400 - len(made)))
        self.assertEqual(found[-1], [0, 0, 15] + list(b"~Ka~" * 15 + b"T"))

    def test_formulas_far_too_long(self):
        made = [state(0)] * 16 + [link(0, high, low) for high in range(2, 17) for low in range(1, high)]
        found = self.timed(made + [alike(16, 15), alike(15, 16)] * 132)
        self.assertEqual(found[len(made):], [[-9]] * 264)

    def test_long_texts(self):
        formula = "~~~" + together(["0"] * 100)
        calls = [state(0), state(1), so(1)] + [kind(formula) for kind in (tell, again, chain, minds)] * 17
        found = self.timed(calls)
        self.assertEqual(found[3:7], [[0, 1], [0, 0, 1], [-11], [0, 3, 3, 3, 3]])

    def test_whispers_up_to_the_brim(self):
        """Whispered, taken back and whispered again: numbers go on."""
        made = [state(1)] * 8 + [link(agent, start, end) for agent in range(2) for start in range(1, 9)
                                 for end in range(1, 9)][:100] + [so(1)]
        found = self.timed(made + [whisper(0, "0"), undo()] * 145)
        self.assertEqual(found[len(made)::2], [[0, 9 + 8 * count] for count in range(145)])
