"""The call again."""

from tests.helper import Case, Maker, again, behind, drop, holds, link, model, plain_answers, so, state, tell, truth, undo
from tests.helper import whole

DEEP = "~" * 40 + "T"


def path(count):
    """States one behind another, by the agent a's links; the first is so."""
    return [state(0)] * count + [link(0, number, number + 1) for number in range(1, count)] + [so(1)]


def muddy():
    """Three children; each sees the others, so in each state it takes two for possible; all are muddy."""
    made = [state(mask) for mask in range(8)]
    made += [link(agent, mask + 1, (mask ^ bit) + 1) for agent, bit in enumerate((1, 2, 4)) for mask in range(8)]
    made += [link(agent, mask + 1, mask + 1) for agent in range(3) for mask in range(8)]
    return made + [so(8)]


NOBODY = "(~(Ka0|Ka~0)&(~(Kb1|Kb~1)&~(Kc2|Kc~2)))"


class Again(Case):
    def test_told_no_time(self):
        """It doesn't hold; or all states would be left."""
        made = path(3)
        for formula in ("0", "~T", "Ka~T"):
            self.told_behind(made, [again(formula), holds("T"), truth("T")], [[0, 0, 3], [0, 1, 2, 3], [0, 1]])
        for formula in ("T", "~0", "Kb0"):
            self.told_behind(made, [again(formula), holds("T")], [[0, 0, 3], [0, 1, 2, 3]])

    def test_told_once(self):
        made = [state(1), state(0), state(1), so(1)]
        self.told_behind(made, [again("0"), model(), again("0")],
                         [[0, 1, 2], whole(1, {1: 1, 3: 1}, []), [0, 0, 2]])

    def test_told_several_times(self):
        """Each time the last state of the path goes, till the one that's so is the last."""
        for count in range(1, 17):
            self.told_behind(path(count), [again("~Ka~T"), holds("T")], [[0, count - 1, 1], [0, 1]])

    def test_it_stops_where_it_stops_holding(self):
        """Told of one that isn't the first: what is left when it doesn't hold any more in the state that's so."""
        self.told_behind(path(6) + [so(4)], [again("~Ka~T"), holds("T"), truth("~Ka~T"), model()],
                         [[0, 2, 4], [0, 1, 2, 3, 4], [0, 0],
                          whole(4, {1: 0, 2: 0, 3: 0, 4: 0}, [(0, 1, 2), (0, 2, 3), (0, 3, 4)])])

    def test_muddy_children(self):
        """Told that one is muddy, then twice that nobody knows: all know."""
        everyone = "(Ka0&(Kb1&Kc2))"
        self.told_behind(muddy(), [tell("(0|(1|2))"), truth(everyone), again(NOBODY), truth(everyone), holds("T")],
                         [[0, 7], [0, 0], [0, 2, 1], [0, 1], [0, 8]])

    def test_it_is_told_as_by_tell(self):
        """As many times told by tell, one behind another."""
        made = muddy() + [tell("(0|(1|2))")]
        self.assertEqual(behind(made, [again(NOBODY), model()])[1:],
                         behind(made, [tell(NOBODY), tell(NOBODY), model()])[2:])

    def test_it_goes_on_though_the_formula_is_about_tellings(self):
        self.told_behind(path(4), [again("[Ka~T]~T"), holds("T")], [[0, 3, 1], [0, 1]])

    def test_undo_takes_all_of_it_back(self):
        made = path(5)
        before = behind(made, [model()])[0]
        self.told_behind(made, [again("~Ka~T"), undo(), model(), undo()], [[0, 4, 1], [0], before, [-12]])

    def test_told_no_time_it_counts_for_undo(self):
        self.told_behind(path(3), [tell("T"), again("0"), undo(), undo(), undo()],
                         [[0, 3], [0, 0, 3], [0], [0], [-12]])

    def test_one_state(self):
        self.told_behind([state(1), so(1)], [again("0"), again("~0"), again("T")], [[0, 0, 1]] * 3)

    def test_none_is_so(self):
        self.told_behind([], [again("T")], [[-7]])
        self.told_behind(path(3), [drop(1), again("~Ka~T"), holds("T"), undo()], [[0], [-7], [0, 2, 3], [-12]])

    def test_what_is_told_first(self):
        self.told_behind([state(0)], [again("8"), again(DEEP), again("T"), again("")], [[-1], [-2], [-7], [-1]])
        self.told_behind(path(2), [again("8"), again(DEEP), again("0")], [[-1], [-2], [0, 0, 2]])

    def test_refused_changes_nothing(self):
        made = path(3)
        for refused in (again("~"), again(DEEP)):
            found = behind(made, [tell("~Ka~T"), refused, model(), undo(), model(), undo()])
            self.assertEqual(found[2:], behind(made, [tell("~Ka~T"), model(), undo(), model(), undo()])[1:])

    def test_many(self):
        maker = Maker(41)
        times = {}
        for each in range(600):
            made = maker.model(8, 14, 2)[2]
            formula = maker.formula(5, ("01~~&|KKEC[", "0T~~~KK&|E")[each % 2])
            calls = made + [so(1), again(formula), model(), undo(), model()]
            found = behind(made, calls[len(made):])
            self.assertEqual(found, plain_answers(calls)[len(made):])
            times[found[1][1]] = times.get(found[1][1], 0) + 1
        self.assertGreater(min(times[0], times[1], times[2]), 5)
