"""How calls and answers stand in their lists, and that nothing is changed or kept."""

import builtins
import contextlib
import io
import unittest.mock

from tests.helper import GREATEST, LEAST, Case, Maker, again, alike, ask, chain, cut, drop, flat, holds, least, link, minds
from tests.helper import model, reduce, show, so, state, tell, together, truth, undo, unlink, whisper
from whoknows.model import answers


WITH_FORMULA = (holds, truth, reduce, tell, again, chain, minds)
KINDS = ((state, link, link, link, link, link, unlink, drop, so, so) + WITH_FORMULA
         + (holds, whisper, whisper, show, show, alike, alike, least, undo, undo, undo, model, model))


def long_line(seed):
    """A line of 400 calls of all kinds, refused and accepted ones."""
    maker = Maker(seed)
    reduced = 0
    calls = [state(maker.random.randrange(16)) for each in range(8)]
    while len(calls) < 400:
        numbers = [maker.random.choice([0, 1, 2, 3, 4, 5, 6, 7, 8, 9, LEAST, GREATEST, -1]) for each in range(3)]
        formula = maker.formula(4)[:maker.random.choice([60, 60, 60, 5])]
        kind = maker.random.choice(KINDS)
        if kind in WITH_FORMULA:
            reduced += kind == reduce
            calls.append((holds if reduced > 60 and kind == reduce else kind)(formula))
        elif kind in (whisper, show):
            calls.append(kind(numbers[0] % 6, formula))
        elif kind in (least, undo, model):
            calls.append(kind())
        else:
            calls.append(kind(*numbers[:{state: 1, drop: 1, so: 1, alike: 2}.get(kind, 3)]))
    return calls


class Lists(Case):
    def test_answers_stand_behind_their_counts(self):
        self.assertEqual(answers([0, 5]), [2, 0, 1])
        self.assertEqual(answers([0, 256]), [1, -1])
        self.assertEqual(answers([0, 1, 0, 3, 1, 0, 1, 2, 4, 2, 5, 1, 48, 6, 3, 75, 97, 48, 8, 1, 49, 2, 0, 1, 2, 3, 9]),
                         [2, 0, 1, 2, 0, 2, 1, 0, 1, 0, 3, 0, 1, 2, 2, 0, 1, 2, 0, 1, 1, -6, 1, -4])
        self.assertEqual(answers([7, 4, 91, 48, 93, 49, 5, 0, 5, 1, 84]), [7, 0, 40, 126, 48, 124, 49, 41, 1, -1, 1, 0])

    def test_numbers_that_look_like_calls(self):
        self.assertEqual(answers([0, 0, 4, 1, 5, 1, 84, 3, 1]), [2, 0, 1, 1, 0, 2, 0, 1, 1, 0])

    def test_later_calls_stand_behind_their_counts(self):
        made = [0, 1, 0, 0, 1, 0, 1, 2, 1, 1, 1, 1, 4, 1]
        given = [2, 0, 1, 2, 0, 2, 1, 0, 1, 0, 1, 0]
        self.assertEqual(answers(made), given)
        self.assertEqual(answers(made + [9, 0, 1, 48, 16]), given + [2, 0, 3, 1, 0])
        self.assertEqual(answers(made + [10, 0, 1, 48, 11, 1, 84]), given + [2, 0, 1, 3, 0, 0, 2])
        self.assertEqual(answers(made + [12, 1, 2, 12, 2, 2]), given + [4, 0, 0, 0, 48, 2, 0, 1])
        self.assertEqual(answers(made + [13, 14, 1, 48, 15, 1, 48]), given + [2, 0, 2, 3, 0, 0, 2, 5, 0, 2, 1, 3, 3])
        self.assertEqual(answers(made + [17, 16]),
                         given + [14, 0, 1, 2, 1, 1, 2, 0, 2, 0, 1, 2, 1, 1, 1, 1, -12])

    def test_empty_texts_between_calls(self):
        self.told([holds(""), truth(""), reduce(""), tell(""), whisper(0, ""), show(0, ""), again(""), chain(""), minds(""),
                   state(0)], [[-1]] * 9 + [[0, 1]])

    def test_four_hundred_calls(self):
        self.told([state(0), so(1)] + [truth("T")] * 398, [[0, 1], [0]] + [[0, 1]] * 398)

    def test_whole_line_of_long_formulas(self):
        formula = "~~~" + together(["0"] * 100)
        calls = [state(0), state(1)] + [holds(formula)] * 74
        self.assertLessEqual(len(flat(calls)), 30000)
        self.told(calls, [[0, 1], [0, 2]] + [[0, 1]] * 74)

    def test_wide_range_of_numbers(self):
        for number in (LEAST, GREATEST):
            self.told([state(number), link(number, 1, 1), link(0, number, number), unlink(number, number, number),
                       drop(number), so(number), whisper(number, "T"), show(number, "T"), alike(number, number)],
                      [[-1], [-1], [-4], [-6], [-4], [-4], [-1], [-1], [-4]])

    def test_refusals_are_one_number(self):
        for seed in range(30):
            for answer in ask(long_line(seed)):
                self.assertTrue(answer[0] == 0 or len(answer) == 1 and -12 <= answer[0] <= -1, answer)

    def test_refusals_change_nothing(self):
        """A line answers the same without the calls that it refuses, those of undo and model too."""
        for seed in range(30):
            calls = long_line(seed)
            found = ask(calls)
            taken = [place for place, answer in enumerate(found) if answer[0] == 0]
            self.assertGreater(len(taken), 50)
            self.assertEqual(ask([calls[place] for place in taken]), [found[place] for place in taken])

    def test_all_are_whole_numbers(self):
        for seed in range(10):
            given = answers(flat(long_line(seed)))
            self.assertIs(type(given), list)
            self.assertEqual({type(number) for number in given}, {int})


class Kept(Case):
    def test_list_handed_in_is_as_it_was(self):
        for seed in range(10):
            calls = flat(long_line(seed))
            before = list(calls)
            answers(calls)
            self.assertEqual(calls, before)
            self.assertEqual({type(number) for number in calls}, {int})

    def test_list_is_not_changed_for_a_while_either(self):
        class Fixed(list):
            def refuse(self, *given):
                raise AssertionError("changed")

            append = extend = insert = remove = pop = clear = sort = reverse = refuse
            __setitem__ = __delitem__ = __iadd__ = __imul__ = refuse

        calls = flat(long_line(3))
        self.assertEqual(answers(Fixed(calls)), answers(calls))

    def test_second_time_is_as_the_first(self):
        for seed in range(5):
            calls = flat(long_line(seed))
            first = answers(calls)
            answers(flat(long_line(seed + 1)))
            self.assertEqual(answers(calls), first)

    def test_answers_are_not_shared(self):
        calls = flat([state(1), holds("0")])
        first = answers(calls)
        first.clear()
        self.assertEqual(cut(answers(calls)), [[0, 1], [0, 1]])

    def test_every_line_begins_anew(self):
        ask([state(0), state(0), link(0, 1, 2), so(1)])
        self.told([truth("T"), holds("T"), state(0), link(0, 1, 1)], [[-7], [0], [0, 1], [0]])

    def test_prints_and_reads_nothing(self):
        out = io.StringIO()
        forbidden = unittest.mock.Mock(side_effect=AssertionError("asked"))
        with contextlib.redirect_stdout(out), contextlib.redirect_stderr(out):
            with unittest.mock.patch.object(builtins, "open", forbidden):
                with unittest.mock.patch.object(builtins, "input", forbidden):
                    answers(flat(long_line(1)))
        self.assertEqual(out.getvalue(), "")
