"""The call chain."""

from tests.helper import Case, Maker, behind, chain, drop, holds, link, model, plain_answers, so, state, tell, truth, undo

DEEP = "~" * 40 + "T"


class Chain(Case):
    def test_one_link(self):
        self.told_behind([state(1), state(0), link(2, 1, 2), so(1)], [chain("0")], [[0, 2, 2]])

    def test_back_to_the_one_that_is_so(self):
        made = [state(0), state(1), so(1)]
        self.told_behind(made + [link(1, 1, 1)], [chain("0")], [[0, 1, 1]])
        self.told_behind(made + [link(3, 1, 2), link(0, 2, 1)], [chain("0")], [[0, 3, 2, 0, 1]])

    def test_none_without_a_link(self):
        """The state that's so itself is none without a chain back."""
        self.told_behind([state(0), so(1)], [chain("0"), chain("T"), chain("~T")], [[-11]] * 3)
        self.told_behind([state(0), state(0), link(0, 2, 1), link(0, 2, 2), so(1)], [chain("0")], [[-11]])

    def test_none_where_it_holds_wherever_chains_lead(self):
        made = [state(1), state(1), state(0), link(0, 1, 2), link(1, 2, 1), link(0, 3, 3), link(0, 3, 1), so(1)]
        self.told_behind(made, [chain("0"), truth("C0"), so(3), chain("0")], [[-11], [0, 1], [0], [0, 0, 3]])

    def test_example_of_the_document(self):
        """The first of the two, though the other one's last link is by a lesser agent."""
        made = [state(1), state(1), state(1), state(0), link(0, 1, 2), link(1, 2, 4), link(0, 1, 3), link(0, 3, 4), so(1)]
        self.told_behind(made, [chain("0")], [[0, 0, 2, 1, 4]])

    def test_next_to_last_by_the_agent_that_leads_there(self):
        """3 is come to by a, 2 by b: so 3 is first."""
        made = [state(1), state(1), state(1), state(0), link(1, 1, 2), link(0, 2, 4), link(0, 1, 3), link(3, 3, 4), so(1)]
        self.told_behind(made, [chain("0")], [[0, 0, 3, 3, 4]])

    def test_then_the_least_agent_then_the_least_state(self):
        made = [state(1), state(0), state(0), state(0), state(0), so(1)]
        self.told_behind(made + [link(2, 1, 2), link(1, 1, 5), link(1, 1, 4), link(3, 1, 3)], [chain("0")], [[0, 1, 4]])
        self.told_behind(made + [link(2, 1, 3), link(2, 1, 2)], [chain("0")], [[0, 2, 2]])

    def test_order_goes_on_through_several_links(self):
        """Of the two ways from 3 and 2 to 5 and 4, and on to 6: 3 was come to ahead of 2, so 5 ahead of 4."""
        made = [state(1)] * 5 + [state(0), link(0, 1, 3), link(1, 1, 2), link(3, 3, 5), link(0, 2, 4), link(2, 5, 6),
                                 link(0, 4, 6), so(1)]
        self.told_behind(made, [chain("0")], [[0, 0, 3, 3, 5, 2, 6]])

    def test_several_links_to_one_state(self):
        made = [state(1), state(1), state(0), link(3, 1, 2), link(1, 1, 2), link(2, 2, 3), link(1, 2, 3), so(1)]
        self.told_behind(made, [chain("0")], [[0, 1, 2, 1, 3]])

    def test_shortest(self):
        made = [state(1)] * 4 + [state(0), link(0, 1, 2), link(0, 2, 3), link(0, 3, 5), link(3, 1, 4), link(3, 4, 5), so(1)]
        self.told_behind(made, [chain("0")], [[0, 3, 4, 3, 5]])

    def test_sixteen_links(self):
        """A ring through all states, back to the first one."""
        made = [state(0)] + [state(1)] * 15 + [link(number % 4, number, number % 16 + 1) for number in range(1, 17)]
        expected = [value for number in range(1, 17) for value in (number % 4, number % 16 + 1)]
        self.told_behind(made + [so(1)], [chain("0")], [[0] + expected])

    def test_links_from_other_states_do_not_count(self):
        made = [state(1), state(1), state(0), link(0, 1, 1), link(0, 2, 3), so(1)]
        self.told_behind(made, [chain("0"), so(2), chain("0")], [[-11], [0], [0, 0, 3]])

    def test_formulas_of_knowing(self):
        made = [state(1), state(1), state(0), link(0, 1, 2), link(0, 2, 3), so(1)]
        self.told_behind(made, [chain("Ka0"), chain("~Ka~T"), chain("[0]Ka0"), chain("C~T")],
                         [[0, 0, 2], [0, 0, 2, 0, 3], [-11], [0, 0, 2]])

    def test_none_is_so(self):
        self.told_behind([], [chain("T")], [[-7]])
        self.told_behind([state(0), link(0, 1, 1), so(1), drop(1)], [chain("0")], [[-7]])

    def test_what_is_told_first(self):
        self.told_behind([state(0)], [chain("8"), chain(""), chain(DEEP), chain("T")], [[-1], [-1], [-2], [-7]])
        self.told_behind([state(0), so(1)], [chain("8"), chain(DEEP), chain("T")], [[-1], [-2], [-11]])

    def test_it_changes_nothing(self):
        made = [state(1), state(0), link(0, 1, 2), so(1), tell("T")]
        self.assertEqual(behind(made, [chain("0"), chain("T"), chain("8"), chain(DEEP), model(), undo(), undo()])[4:],
                         behind(made, [model(), undo(), undo()]))

    def test_many(self):
        """As the document's words say; and there's one just if it isn't common knowledge."""
        maker = Maker(71)
        long = 0
        for each in range(300):
            states = maker.random.randint(2, 12)
            masks, links, made = maker.model(states, maker.random.randint(0, 3 * states), 3)
            made += [so(maker.random.randint(1, states))]
            formulas = ["(0|(1|2))", "(0|~1)"] + [maker.formula(3) for count in range(4)]
            calls = made + [chain(formula) for formula in formulas]
            found = behind(made, calls[len(made):])
            self.assertEqual(found, plain_answers(calls)[len(made):])
            known = behind(made, [truth("C" + formula) for formula in formulas])
            self.assertEqual([answer == [-11] for answer in found], [answer == [0, 1] for answer in known])
            long += max(len(answer) for answer in found) > 5
        self.assertGreater(long, 20)

    def test_it_is_a_chain(self):
        maker = Maker(72)
        for each in range(100):
            masks, links, made = maker.model(10, 20, 2)
            found, where = behind(made + [so(1)], [chain("(0|1)"), holds("(0|1)")])
            if found != [-11]:
                here = 1
                for agent, there in zip(found[1::2], found[2::2]):
                    self.assertIn((agent, here, there), links)
                    here = there
                self.assertNotIn(here, where[1:])
                self.assertTrue(all(number in where[1:] for number in found[2:-2:2]))
