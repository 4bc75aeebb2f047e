"""The call minds."""

from tests.helper import Case, Maker, behind, drop, link, minds, model, plain_answers, so, state, tell, truth, undo, whisper

DEEP = "~" * 40 + "T"


class Minds(Case):
    # In 1, a takes none for possible, b two where 0 is so, c two where it isn't, d one of each.
    MADE = [state(0), state(1), state(3), state(0), state(4), link(1, 1, 2), link(1, 1, 3), link(2, 1, 4), link(2, 1, 5),
            link(3, 1, 3), link(3, 1, 4), so(1)]

    def test_each_kind(self):
        self.told_behind(self.MADE, [minds("0"), minds("~0"), minds("T"), minds("~T")],
                         [[0, 3, 1, 2, 0], [0, 3, 2, 1, 0], [0, 3, 1, 1, 1], [0, 3, 2, 2, 2]])

    def test_some(self):
        self.told_behind(self.MADE, [minds("1"), minds("2"), minds("(0&~1)")],
                         [[0, 3, 0, 2, 0], [0, 3, 2, 0, 2], [0, 3, 0, 2, 2]])

    def test_each_agent(self):
        for agent in range(4):
            expected = [3, 3, 3, 3]
            expected[agent] = 1
            self.told_behind([state(1), link(agent, 1, 1), so(1)], [minds("0")], [[0] + expected])
            expected[agent] = 2
            self.told_behind([state(1), link(agent, 1, 1), so(1)], [minds("1")], [[0] + expected])

    def test_what_is_so_does_not_matter(self):
        """Only what's possible there counts; the state itself only if it's taken for possible."""
        self.told_behind([state(1), state(0), link(0, 1, 2), so(1)], [minds("0")], [[0, 2, 3, 3, 3]])

    def test_links_from_other_states_do_not_count(self):
        self.told_behind(self.MADE + [link(0, 2, 1), link(0, 3, 3)], [minds("0"), so(2), minds("0")],
                         [[0, 3, 1, 2, 0], [0], [0, 2, 3, 3, 3]])

    def test_no_links(self):
        self.told_behind([state(0), so(1)], [minds("T"), minds("~T")], [[0, 3, 3, 3, 3]] * 2)

    def test_of_knowing(self):
        made = self.MADE + [link(0, 2, 2), link(0, 3, 1)]
        self.told_behind(made, [minds("Ka0"), minds("Ka~T"), minds("[0]Ka~T")],
                         [[0, 3, 0, 1, 0], [0, 3, 2, 1, 0], [0, 3, 0, 1, 1]])

    def test_behind_a_whisper(self):
        made = [state(1), state(0)] + [link(agent, start, end) for agent in (0, 1) for start in (1, 2) for end in (1, 2)]
        self.told_behind(made + [so(1)], [minds("0"), whisper(1, "0"), minds("0"), minds("Kb0"), undo(), minds("0")],
                         [[0, 0, 0, 3, 3], [0, 3], [0, 0, 1, 3, 3], [0, 2, 1, 3, 3], [0], [0, 0, 0, 3, 3]])

    def test_none_is_so(self):
        self.told_behind([], [minds("T")], [[-7]])
        self.told_behind(self.MADE, [drop(1), minds("T")], [[0], [-7]])

    def test_what_is_told_first(self):
        self.told_behind([state(0)], [minds("9"), minds(""), minds(DEEP), minds("T")], [[-1], [-1], [-2], [-7]])
        self.told_behind(self.MADE, [minds("9"), minds(DEEP)], [[-1], [-2]])

    def test_it_changes_nothing(self):
        made = self.MADE + [tell("T")]
        self.assertEqual(behind(made, [minds("0"), minds("8"), minds(DEEP), model(), undo(), undo()])[3:],
                         behind(made, [model(), undo(), undo()]))

    def test_many(self):
        """As the document's words say; and it's what truth answers of knowing."""
        maker = Maker(81)
        seen = {}
        for each in range(150):
            made = maker.model(6, 20)[2] + [so(2)]
            formula = maker.formula(4)
            calls = made + [minds(formula)] + [truth("K" + name + sign + formula) for sign in ("", "~") for name in "abcd"]
            found = behind(made, calls[len(made):])
            self.assertEqual(found, plain_answers(calls)[len(made):])
            for agent in range(4):
                self.assertEqual(found[0][agent + 1], found[agent + 1][1] + 2 * found[agent + 5][1])
            for number in found[0][1:]:
                seen[number] = seen.get(number, 0) + 1
        self.assertEqual(sorted(seen), [0, 1, 2, 3])
        self.assertGreater(min(seen.values()), 25)
