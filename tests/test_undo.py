"""The call undo."""

from tests.helper import Case, Maker, again, alike, ask, behind, chain, drop, holds, least, link, minds, model, reduce, show
from tests.helper import so, state, tell, truth, undo, unlink, whisper

# 1 and 2 are alike and both reached; in 3 the atom 0 isn't so; 4 isn't reached.
MADE = [state(1), state(1), state(0), state(1), link(0, 2, 1), link(0, 1, 2), link(0, 2, 3), link(0, 1, 3), link(1, 2, 3),
        link(1, 1, 3), link(2, 4, 4), so(2)]
CHANGES = (tell("0"), whisper(0, "0"), show(0, "0"), again("0"), least())
# Accepted, and the model is as it was.
IDLE = (tell("T"), show(3, "0"), again("T"), again("~0"))
REFUSED = (tell("~0"), tell("8"), tell("~" * 40 + "T"), whisper(4, "0"), whisper(0, "~0"), whisper(0, "8"), show(4, "0"),
           show(0, "8"), again("8"), again("~" * 40 + "T"))
MAKING = (state(0), link(3, 1, 1), unlink(0, 1, 2), drop(4), so(1), so(2))
MAKING_REFUSED = (state(256), state(-1), link(4, 1, 1), link(0, 9, 1), link(0, 1, 2), unlink(3, 1, 1), drop(9), so(9), so(0))
ASKING = (holds("0"), truth("0"), reduce("[0]1"), alike(1, 3), chain("0"), minds("0"), model())


class Undo(Case):
    def setUp(self):
        self.before = behind(MADE, [model()])[0]

    def test_each_change_is_taken_back(self):
        for change in CHANGES:
            found = behind(MADE, [change, model(), undo(), model(), undo()])
            self.assertEqual(found[0][0], 0)
            self.assertNotEqual(found[1], self.before)
            self.assertEqual(found[2:], [[0], self.before, [-12]])

    def test_each_behind_each(self):
        for first in CHANGES:
            between = behind(MADE, [first, model()])[1]
            for second in CHANGES:
                found = behind(MADE, [first, second, undo(), model(), undo(), model(), undo()])
                self.assertEqual(found[1][0], 0)
                self.assertEqual(found[2:], [[0], between, [0], self.before, [-12]])

    def test_many_one_behind_another(self):
        calls = [change for count in range(40) for change in (tell("T"), show(0, "0"), again("0"), least())]
        found = behind(MADE, calls + [undo()] * 160 + [model(), undo()])
        self.assertEqual(found[160:], [[0]] * 160 + [self.before, [-12]])

    def test_accepted_that_changed_nothing(self):
        for idle in IDLE:
            found = behind(MADE, [idle, model(), undo(), model(), undo()])
            self.assertEqual(found[0][0], 0)
            self.assertEqual(found[1:], [self.before, [0], self.before, [-12]])
            after = behind(MADE, [tell("0"), model()])[1]
            found = behind(MADE, [tell("0"), idle, undo(), model(), undo(), model(), undo()])
            self.assertEqual(found[2:], [[0], after, [0], self.before, [-12]])

    def test_least_that_changed_nothing(self):
        self.told_behind([state(0), so(1)], [least(), undo(), undo()], [[0, 1], [0], [-12]])

    def test_refused_ones_are_not_taken_back(self):
        for refused in REFUSED:
            found = behind(MADE, [refused, undo(), tell("0"), refused, undo(), model(), undo()])
            self.assertEqual(len(found[0]), 1)
            self.assertLess(found[0][0], 0)
            self.assertEqual(found[1:3] + found[4:], [[-12], [0, 3], [0], self.before, [-12]])

    def test_at_the_beginning(self):
        self.told([undo()], [[-12]])
        self.told([undo(), undo(), model()], [[-12], [-12], [0, 0, 0, 0]])
        self.told_behind(MADE, [undo(), undo()], [[-12], [-12]])

    def test_none_behind_what_makes_the_model(self):
        for making in MAKING:
            found = behind(MADE, [tell("T"), show(0, "0"), making, undo(), undo(), least(), undo(), undo()])
            self.assertEqual(found[2][0], 0)
            self.assertEqual(found[3:5] + found[6:], [[-12], [-12], [0], [-12]])

    def test_what_makes_the_model_stays_behind_an_undo(self):
        for making in MAKING:
            after = behind(MADE, [show(0, "0"), making, model()])[2]
            found = behind(MADE, [show(0, "0"), making, tell("0"), undo(), model(), undo(), model()])
            self.assertEqual(found[3:], [[0], after, [-12], after])

    def test_refused_making_does_not_matter(self):
        for making in MAKING_REFUSED:
            found = behind(MADE, [tell("0"), making, undo(), making, model(), undo()])
            self.assertLess(found[1][0], 0)
            self.assertEqual(found[2:3] + found[4:], [[0], self.before, [-12]])

    def test_asking_does_not_matter(self):
        for asking in ASKING:
            found = behind(MADE, [show(0, "0"), asking, least(), asking, undo(), asking, undo(), asking, model(), undo()])
            self.assertEqual([found[place] for place in (4, 6, 8, 9)], [[0], [0], self.before, [-12]])

    def test_which_state_is_so(self):
        self.told_behind(MADE, [whisper(0, "0"), truth("Ka0"), undo(), truth("Ka0"), drop(2), truth("T")],
                         [[0, 6], [0, 1], [0], [0, 0], [0], [-7]])
        found = behind(MADE, [least(), model(), undo(), model()])
        self.assertEqual((found[1][1], found[3][1]), (1, 2))

    def test_none_is_so_again(self):
        made = [state(0), state(0), link(0, 1, 2)]
        self.told_behind(made, [show(0, "T"), undo(), truth("T"), tell("T"), undo()], [[0, 0], [0], [-7], [-7], [-12]])

    def test_numbers_are_not_given_again(self):
        self.told_behind(MADE, [whisper(0, "0"), undo(), whisper(1, "0"), undo(), state(0), so(5)],
                         [[0, 6], [0], [0, 9], [0], [0, 11], [-4]])

    def test_states_of_a_whisper_are_gone(self):
        self.told_behind(MADE, [whisper(0, "0"), undo(), alike(5, 5), drop(5), link(0, 5, 5), undo()],
                         [[0, 6], [0], [-4], [-4], [-4], [-12]])

    def test_undone_and_done_again(self):
        once = behind(MADE, [tell("0"), model()])
        self.assertEqual(behind(MADE, [tell("0"), undo(), tell("0"), model()])[2:], once)
        self.told_behind(MADE, [tell("0"), undo(), show(0, "0"), undo(), model(), undo()],
                         [[0, 3], [0], [0, 2], [0], self.before, [-12]])

    def test_again_is_one(self):
        made = [state(0)] * 5 + [link(0, number, number + 1) for number in range(1, 5)] + [so(1)]
        self.told_behind(made, [tell("T"), again("~Ka~T"), undo(), holds("T"), undo(), undo()],
                         [[0, 5], [0, 4, 1], [0], [0, 1, 2, 3, 4, 5], [0], [-12]])

    def test_what_was_kept_is_not_changed_by_what_comes_later(self):
        """Two are taken back one behind another, and between them the model is changed again."""
        first = behind(MADE, [show(0, "0"), model()])[1]
        found = behind(MADE, [show(0, "0"), whisper(0, "0"), undo(), model(), whisper(1, "0"), tell("0"), undo(), undo(),
                              model(), undo(), model(), undo()])
        self.assertEqual((found[3], found[8], found[9:]), (first, first, [[0], self.before, [-12]]))

    def test_many(self):
        """Each undo brings back what model told before the change; numbers go on."""
        maker = Maker(91)
        taken = 0
        for each in range(60):
            made = maker.model(5, 14, 2)[2] + [so(1)]
            calls = []
            while len(calls) + len(made) < 390:
                agent = maker.random.randrange(4)
                formula = maker.formula(3, "01~~&|KE")
                change = maker.random.choice([tell(formula), whisper(agent, formula), show(agent, formula), again(formula),
                                              least(), undo(), undo(), undo()])
                calls += [change, model()]
            found = ask(made + [model()] + calls)[len(made):]
            past = []
            for place in range(1, len(found), 2):
                before, answer, after = found[place - 1:place + 2]
                if calls[place - 1] == undo():
                    self.assertEqual(answer, [0] if past else [-12])
                    self.assertEqual(after, past.pop() if past else before)
                    taken += answer == [0]
                elif answer[0] == 0:
                    past.append(before)
                else:
                    self.assertEqual(after, before)
        self.assertGreater(taken, 1000)
