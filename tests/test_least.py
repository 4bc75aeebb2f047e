"""The call least, and promise 3."""

import itertools

from tests.helper import Case, Maker, alike, behind, drop, holds, least, link, model, plain_answers, show, so, state, tell
from tests.helper import truth, undo, whisper, whole


class Least(Case):
    def test_one_state(self):
        self.told_behind([state(5), so(1)], [least(), model()], [[0, 1], whole(1, {1: 5}, [])])
        self.told_behind([state(5), link(3, 1, 1), so(1)], [least(), model()], [[0, 1], whole(1, {1: 5}, [(3, 1, 1)])])

    def test_what_no_chain_reaches_goes(self):
        """Also a state that leads to the one that's so, and one that leads to what's reached."""
        made = [state(1), state(2), state(3), state(4), state(5), link(0, 2, 4), link(1, 4, 3), link(2, 1, 2), link(3, 5, 3),
                link(0, 5, 5), so(2)]
        self.told_behind(made, [least(), model()], [[0, 3], whole(2, {2: 2, 3: 3, 4: 4}, [(0, 2, 4), (1, 4, 3)])])

    def test_the_one_that_is_so_stays_without_links(self):
        made = [state(1), state(1), link(0, 1, 2), so(2)]
        self.told_behind(made, [least(), model()], [[0, 1], whole(2, {2: 1}, [])])

    def test_long_chains_by_all_agents(self):
        made = [state(number) for number in range(16)] + [link(number % 4, number, number + 1) for number in range(1, 16)]
        self.told_behind(made + [so(1)], [least()], [[0, 16]])
        self.told_behind(made + [so(9)], [least(), holds("T")], [[0, 8], [0] + list(range(9, 17))])

    def test_of_states_alike_the_least_number_stays(self):
        made = [state(0), state(1), state(1), state(1), link(0, 1, 4), link(1, 1, 3), link(2, 1, 2), so(1)]
        self.told_behind(made, [least(), model()], [[0, 2], whole(1, {1: 0, 2: 1}, [(0, 1, 2), (1, 1, 2), (2, 1, 2)])])

    def test_state_that_is_so_is_made_to_another(self):
        made = [state(0), state(1), state(0), link(0, 3, 2), link(0, 2, 1), link(0, 1, 2), so(3)]
        self.told_behind(made, [least(), model(), truth("Ka0")],
                         [[0, 2], whole(1, {1: 0, 2: 1}, [(0, 1, 2), (0, 2, 1)]), [0, 1]])

    def test_not_to_one_that_no_chain_reaches(self):
        """1 is alike the state that's so, but isn't reached."""
        made = [state(0), state(1), state(0), link(0, 3, 2), link(0, 1, 2), so(3)]
        self.told_behind(made, [alike(1, 3), least(), model()], [[0, 1], [0, 2], whole(3, {2: 1, 3: 0}, [(0, 3, 2)])])

    def test_links_that_fall_together_are_made_once(self):
        ring = [state(0)] * 3 + [link(0, 1, 2), link(0, 2, 3), link(0, 3, 1), so(2)]
        self.told_behind(ring, [least(), model()], [[0, 1], whole(1, {1: 0}, [(0, 1, 1)])])
        full = [state(0)] * 4 + [link(agent, start, end) for agent in (1, 3) for start in range(1, 5) for end in range(1, 5)]
        self.told_behind(full + [so(4)], [least(), model()], [[0, 1], whole(1, {1: 0}, [(1, 1, 1), (3, 1, 1)])])

    def test_room_is_made(self):
        full = [(agent, start, end) for agent in range(4) for start in range(1, 17) for end in range(1, 17)][:200]
        made = [state(0)] * 16 + [link(*each) for each in full] + [so(16)]
        self.told_behind(made, [least(), whisper(0, "T"), state(0)], [[0, 1], [0, 17], [0, 18]])

    def test_nothing_to_make_less(self):
        made = [state(0), state(1), link(0, 1, 2), link(1, 2, 1), so(1)]
        self.assertEqual(behind(made, [least(), model()]), [[0, 2], behind(made, [model()])[0]])

    def test_least_of_the_least(self):
        made = [state(0), state(0), state(1), link(0, 1, 2), link(0, 2, 1), link(1, 1, 3), link(1, 2, 3), so(2)]
        found = behind(made, [least(), model(), least(), model()])
        self.assertEqual(found[:2], [[0, 2], whole(1, {1: 0, 3: 1}, [(0, 1, 1), (1, 1, 3)])])
        self.assertEqual(found[2:], found[:2])

    def test_numbers_go_on(self):
        self.told_behind([state(0), state(0), so(2)], [least(), state(0)], [[0, 1], [0, 3]])

    def test_behind_a_whisper(self):
        """A copy by which nothing is learned is alike what it's a copy of."""
        made = [state(1), state(0), link(0, 1, 1), link(1, 1, 2), so(1)]
        self.told_behind(made, [whisper(0, "0"), least(), model()],
                         [[0, 3], [0, 2], whole(3, {2: 0, 3: 1}, [(0, 3, 3), (1, 3, 2)])])
        self.told_behind(made + [link(1, 2, 1)], [whisper(0, "0"), least(), model()],
                         [[0, 3], [0, 2], whole(1, {1: 1, 2: 0}, [(0, 1, 1), (1, 1, 2), (1, 2, 1)])])

    def test_none_is_so(self):
        self.told_behind([], [least()], [[-7]])
        self.told_behind([state(0), state(0), so(1), drop(1)], [least(), model(), undo()],
                         [[-7], whole(0, {2: 0}, []), [-12]])

    def test_refused_changes_nothing_of_undo(self):
        made = [state(0), state(0), link(0, 1, 2)]
        self.told_behind(made, [show(0, "T"), least(), undo(), undo()], [[0, 0], [-7], [0], [-12]])

    def test_undo(self):
        made = [state(0), state(1), state(0), state(2), link(0, 3, 2), link(0, 2, 1), link(0, 1, 2), link(0, 4, 1), so(3)]
        before = behind(made, [model()])[0]
        self.told_behind(made, [least(), undo(), model(), least(), least(), undo(), undo(), model(), undo()],
                         [[0, 2], [0], before, [0, 2], [0, 2], [0], [0], before, [-12]])

    def test_mixed_with_tell(self):
        made = [state(1), state(1), state(0), link(0, 1, 2), link(0, 2, 1), link(0, 1, 3), so(1)]
        self.told_behind(made, [least(), tell("0"), least(), model()],
                         [[0, 3], [0, 2], [0, 1], whole(1, {1: 1}, [(0, 1, 1)])])


class PromiseThree(Case):
    def models(self, seed, count):
        maker = Maker(seed)
        for each in range(count):
            masks, links, made = maker.sparse_model(1)
            yield maker, made + [so(maker.random.randint(1, len(masks)))]

    def test_same_formulas_are_true(self):
        fewer = 0
        for maker, made in self.models(61, 200):
            formulas = [maker.formula(maker.random.randint(1, 6)) for count in range(25)]
            asked = [truth(formula) for formula in formulas if len(formula) <= 400]
            found = behind(made, [holds("T")] + asked + [least()] + asked)
            self.assertEqual(found[1:len(asked) + 1], found[len(asked) + 2:])
            fewer += found[len(asked) + 1][1] < len(found[0]) - 1
        self.assertGreater(fewer, 100)

    def test_no_two_states_left_are_alike(self):
        pairs = 0
        for maker, made in self.models(62, 200):
            left = behind(made, [least(), holds("T")])[1][1:]
            asked = [pair for pair in itertools.product(left, repeat=2) if pair[0] != pair[1]]
            for answer in behind(made, [least()] + [alike(u, v) for u, v in asked])[1:]:
                self.assertTrue(answer == [-9] or answer[:2] == [0, 0])
            pairs += len(asked)
        self.assertGreater(pairs, 300)

    def test_as_the_words_say(self):
        moved = 0
        for maker, made in self.models(63, 300):
            calls = made + [model(), least(), model(), least(), model(), undo(), undo(), model()]
            found = behind(made, calls[len(made):])
            self.assertEqual(found, plain_answers(calls)[len(made):])
            self.assertEqual((found[2], found[0]), (found[4], found[7]))
            moved += found[0][1] != found[2][1]
        self.assertGreater(moved, 10)
