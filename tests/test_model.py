"""The call model."""

from tests.helper import Case, Maker, ask, behind, drop, last, link, model, so, state, tell, unlink, whole


class ModelCall(Case):
    def test_empty(self):
        self.told([model()], [[0, 0, 0, 0]])
        self.told_last([state(3), so(1), drop(1), model()], [0, 0, 0, 0])

    def test_states_alone(self):
        self.told_last([state(3), model()], [0, 0, 1, 1, 3, 0])
        self.told_last([state(255), state(0), model()], [0, 0, 2, 1, 255, 2, 0, 0])

    def test_which_is_so(self):
        self.told_last([state(3), state(4), so(2), model()], [0, 2, 2, 1, 3, 2, 4, 0])
        self.told_last([state(3), state(4), so(2), drop(2), model()], [0, 0, 1, 1, 3, 0])
        self.told_last([state(3), state(4), so(2), drop(1), model()], [0, 2, 1, 2, 4, 0])

    def test_links(self):
        self.told_last([state(0), state(1), link(2, 1, 2), so(1), model()], [0, 1, 2, 1, 0, 2, 1, 1, 2, 1, 2])

    def test_order_of_links(self):
        """By the agent, then the state that it's from, then the one that it's to, in whatever order they were made."""
        wanted = [(agent, start, end) for agent in range(4) for start in (1, 2, 3) for end in (1, 2, 3)]
        made = [state(0)] * 3
        for seed in range(5):
            mixed = list(wanted)
            Maker(seed).random.shuffle(mixed)
            answer = last(made + [link(*each) for each in mixed] + [model()])
            self.assertEqual(answer, [0, 0, 3, 1, 0, 2, 0, 3, 0, 36] + [number for each in wanted for number in each])
        self.told_last(made + [link(*each) for each in reversed(wanted)] + [unlink(1, 2, 3), link(1, 2, 3), model()], answer)

    def test_order_is_by_numbers_not_by_digits(self):
        made = [state(0)] * 12 + [link(0, 12, 2), link(0, 2, 12), link(0, 2, 3), link(0, 10, 1), link(0, 9, 1)]
        self.told_last(made + [model()], whole(0, dict.fromkeys(range(1, 13), 0), [(0, 2, 3), (0, 2, 12), (0, 9, 1),
                                                                                  (0, 10, 1), (0, 12, 2)]))
        self.assertEqual(last(made + [model()])[-15:], [0, 2, 3, 0, 2, 12, 0, 9, 1, 0, 10, 1, 0, 12, 2])

    def test_order_of_states(self):
        made = [state(9), state(8), state(7), drop(2), state(6), drop(1), state(5)]
        self.told_last(made + [model()], [0, 0, 3, 3, 7, 4, 6, 5, 5, 0])

    def test_full(self):
        links = [(agent, start, end) for agent in range(4) for start in range(1, 17) for end in range(1, 17)][:200]
        answer = last([state(number) for number in range(16)] + [link(*each) for each in links] + [so(16), model()])
        self.assertEqual(len(answer), 3 + 32 + 1 + 600)
        self.assertEqual(answer, whole(16, {number + 1: number for number in range(16)}, links))

    def test_refused_calls_are_not_seen(self):
        found = ask([state(1), state(256), link(0, 1, 2), unlink(0, 1, 1), drop(2), so(3), tell("0"), model()])
        self.assertEqual(found[1:7], [[-1], [-4], [-6], [-4], [-4], [-7]])
        self.assertEqual(found[7], [0, 0, 1, 1, 1, 0])

    def test_it_changes_nothing(self):
        made = [state(1), state(2), link(3, 2, 1), link(0, 1, 1), so(2)]
        found = behind(made, [model(), model(), tell("1"), model(), model()])
        self.assertEqual(found, [found[0], found[0], [0, 1], whole(2, {2: 2}, []), whole(2, {2: 2}, [])])
