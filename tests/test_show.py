"""The call show."""

from tests.helper import GREATEST, LEAST, Case, Maker, behind, drop, link, model, plain_answers, show, so, state, tell
from tests.helper import plain_where, tree, truth, undo, whole

MASKS = {1: 1, 2: 0, 3: 3}
LINKS = {(agent, start, end) for agent in range(4) for start in (1, 2, 3) for end in (1, 2, 3)}
MADE = [state(1), state(0), state(3)] + [link(*each) for each in sorted(LINKS)]
DEEP = "~" * 40 + "T"


class Show(Case):
    def test_links_in_both_directions_go(self):
        """Those of the one agent alone; links between states where it holds, or doesn't, stay."""
        for agent in range(4):
            gone = {(agent, 1, 2), (agent, 3, 2), (agent, 2, 1), (agent, 2, 3)}
            self.told_behind(MADE, [show(agent, "0"), model()], [[0, 4], whole(0, MASKS, LINKS - gone)])
            self.told_behind(MADE, [show(agent, "~0"), model()], [[0, 4], whole(0, MASKS, LINKS - gone)])

    def test_one_direction_alone(self):
        made = [state(1), state(0), link(0, 1, 2)]
        self.told_behind(made, [show(0, "0"), model()], [[0, 1], whole(0, {1: 1, 2: 0}, [])])
        self.told_behind(made, [show(0, "~0"), model()], [[0, 1], whole(0, {1: 1, 2: 0}, [])])
        self.told_behind(made, [show(1, "0"), model()], [[0, 0], whole(0, {1: 1, 2: 0}, [(0, 1, 2)])])

    def test_whether_it_holds_is_known_then(self):
        self.told_behind(MADE, [so(1), show(0, "0"), truth("Ka0"), truth("Kb0"), truth("Kb(Ka0|Ka~0)"), so(2),
                                truth("Ka~0"), truth("Kb~0")],
                         [[0], [0, 4], [0, 1], [0, 0], [0, 1], [0], [0, 1], [0, 0]])

    def test_by_which_no_link_goes(self):
        for formula in ("T", "~T", "7", "(0|~0)"):
            self.told_behind(MADE, [show(0, formula), model()], [[0, 0], whole(0, MASKS, LINKS)])
        self.told_behind(MADE, [show(0, "0"), show(0, "0")], [[0, 4], [0, 0]])

    def test_none_need_be_so(self):
        self.told_behind([], [show(0, "0"), model()], [[0, 0], whole(0, {}, [])])
        self.told_behind(MADE, [so(2), drop(2), show(0, "1"), undo(), model()],
                         [[0], [0], [0, 2], [0], whole(0, {1: 1, 3: 3}, {e for e in LINKS if 2 not in e[1:]})])

    def test_need_not_hold_in_the_one_that_is_so(self):
        self.told_behind(MADE, [so(2), show(0, "0"), truth("T"), model()],
                         [[0], [0, 4], [0, 1], behind(MADE, [show(0, "0"), so(2), model()])[-1]])

    def test_all_is_looked_at_before_links_go(self):
        """Ka0 holds in 3 alone; were it asked again while links go, it would hold elsewhere."""
        made = [state(1), state(0), state(1), link(0, 1, 2), link(0, 1, 3), link(0, 3, 3), link(0, 2, 2), link(0, 2, 3)]
        self.told_behind(made, [show(0, "Ka0"), model()],
                         [[0, 2], whole(0, {1: 1, 2: 0, 3: 1}, [(0, 1, 2), (0, 2, 2), (0, 3, 3)])])

    def test_it_counts_for_undo(self):
        self.told_behind(MADE, [show(0, "T"), undo(), undo()], [[0, 0], [0], [-12]])
        self.told_behind(MADE, [show(0, "0"), show(1, "T"), undo(), model(), undo(), model(), undo()],
                         [[0, 4], [0, 0], [0], behind(MADE, [show(0, "0"), model()])[1], [0], whole(0, MASKS, LINKS),
                          [-12]])

    def test_no_such_agent(self):
        for agent in (LEAST, -1, 4, GREATEST):
            self.told_behind(MADE, [show(agent, "0"), model()], [[-1], whole(0, MASKS, LINKS)])

    def test_what_is_told_first(self):
        self.told_behind(MADE, [show(4, "8"), show(4, ""), show(-1, DEEP), show(0, "8"), show(0, DEEP), undo()],
                         [[-1], [-1], [-1], [-1], [-2], [-12]])

    def test_refused_changes_nothing(self):
        for refused in (show(4, "0"), show(0, "0 "), show(0, DEEP)):
            found = behind(MADE, [show(1, "0"), refused, model(), undo(), model(), refused, undo()])
            self.assertEqual(found[1], found[5])
            self.assertEqual(len(found[1]), 1)
            self.assertEqual(found[2], behind(MADE, [show(1, "0"), model()])[1])
            self.assertEqual(found[3:5] + found[6:], [[0], whole(0, MASKS, LINKS), [-12]])

    def test_shown_and_told(self):
        self.told_behind(MADE, [so(3), show(2, "1"), tell("Kc1"), model()],
                         [[0], [0, 4], [0, 1], whole(3, {3: 3}, [(agent, 3, 3) for agent in range(4)])])

    def test_many(self):
        maker = Maker(31)
        gone = 0
        for each in range(200):
            masks, links, made = maker.model(7, 40)
            formula, agent = maker.formula(4), maker.random.randrange(4)
            calls = made + [show(agent, formula), model()]
            found = behind(made, calls[len(made):])
            self.assertEqual(found, plain_answers(calls)[len(made):])
            where = plain_where(masks, links, tree(formula))
            parted = {e for e in links if e[0] == agent and (e[1] in where) != (e[2] in where)}
            self.assertEqual(found, [[0, len(parted)], whole(0, masks, links - parted)])
            gone += len(parted)
        self.assertGreater(gone, 200)
