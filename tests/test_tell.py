"""The call tell, and of promise 4 what speaks of telling openly."""

from tests.helper import Case, Maker, ask, drop, holds, link, plain_only, plain_where, so, state, tell, tree, truth
from tests.helper import unlink

MADE = [state(1), state(3), state(0), state(2), link(0, 1, 2), link(0, 2, 3), link(1, 1, 3), link(2, 3, 4),
        link(3, 4, 4), so(1)]


class Tell(Case):
    def after(self, calls, expected, made=MADE):
        self.assertEqual(ask(made + calls)[len(made):], expected)

    def test_only_those_where_it_holds(self):
        self.after([tell("0"), holds("T"), truth("0"), holds("1")], [[0, 2], [0, 1, 2], [0, 1], [0, 2]])
        self.after([tell("T"), holds("T")], [[0, 4], [0, 1, 2, 3, 4]])
        self.after([tell("Kb~0"), holds("T")], [[0, 4], [0, 1, 2, 3, 4]])
        self.after([tell("Ka1"), holds("T")], [[0, 3], [0, 1, 3, 4]])

    def test_links_of_the_others_go(self):
        self.after([tell("0"), unlink(0, 2, 3), unlink(1, 1, 3), unlink(2, 3, 4), unlink(3, 4, 4), unlink(0, 1, 2)],
                   [[0, 2], [-6], [-6], [-6], [-6], [0]])

    def test_state_that_is_so_stays_so(self):
        self.after([so(2), tell("1"), truth("(0&1)"), holds("T")], [[0], [0, 2], [0, 1], [0, 2, 4]])

    def test_states_gone_are_gone(self):
        self.after([tell("0"), drop(3), so(4), link(0, 1, 3), state(0)], [[0, 2], [-4], [-4], [-4], [0, 5]])

    def test_told_again(self):
        """In the model that's left Ka1 holds where it didn't."""
        self.after([holds("Ka1"), tell("0"), holds("Ka1"), tell("Ka1"), tell("[1]T"), tell("~1")],
                   [[0, 1, 3, 4], [0, 2], [0, 1, 2], [0, 2], [0, 2], [0, 1]])

    def test_told_with_common(self):
        self.after([tell("~C0"), holds("T")], [[0, 4], [0, 1, 2, 3, 4]])
        self.after([unlink(3, 4, 4), tell("~C~T"), holds("T"), holds("C~T")], [[0], [0, 3], [0, 1, 2, 3], [0, 3]])

    def test_none_is_so(self):
        self.after([tell("T")], [[-7]], [])
        self.after([drop(1), tell("T"), tell("~T"), holds("T")], [[0], [-7], [-7], [0, 2, 3, 4]])

    def test_does_not_hold(self):
        self.after([tell("~0"), tell("1"), tell("~T"), tell("Ka~0"), tell("Ka0"), tell("Ka~0")],
                   [[-10], [-10], [-10], [-10], [0, 3], [0, 3]])

    def test_refusals_change_nothing(self):
        found = []
        for refused in ([], [tell("8")], [tell("~" * 40 + "0")], [tell("~0")]):
            answers = ask(MADE + refused + [holds("T"), holds("Ka~T"), holds("Kb~T"), holds("C1"), truth("0"), state(0)])
            found.append(answers[-6:])
        self.assertEqual(found, found[:1] * 4)

    def test_no_formula_then_too_deep_then_none_so_then_not_so(self):
        self.after([tell(""), tell("~" * 40 + "T"), tell("~T")], [[-1], [-2], [-7]], [state(0)])
        self.after([tell("0 "), tell("~" * 41 + "T"), tell("~T")], [[-1], [-2], [-10]])

    def test_many(self):
        """The model left is as the document's words, done plainly, leave it."""
        maker = Maker(8)
        kept = 0
        for each in range(200):
            masks, links, made = maker.model(6, 16)
            formula, asked = maker.formula(4), maker.formula(4)
            where = plain_where(masks, links, tree(formula))
            found = ask(made + [so(4), tell(formula), holds("T"), holds(asked), truth("T")])[-4:]
            if 4 in where:
                masks, links = plain_only(masks, links, where)
                kept += 1
            self.assertEqual(found[0], [0, len(where)] if 4 in where else [-10])
            self.assertEqual(found[1], [0] + sorted(masks))
            self.assertEqual(found[2], [0] + sorted(plain_where(masks, links, tree(asked))))
            self.assertEqual(found[3], [0, 1])
        self.assertGreater(kept, 50)


class PromiseFour(Case):
    def test_told_of_atoms_alone_it_is_common_knowledge(self):
        maker = Maker(9)
        told = 0
        for each in range(200):
            made = maker.model(8, 40, 3)[2]
            formula = maker.formula(5, "T012~&|")
            if len(formula) < 390:
                found = ask(made + [so(1), tell(formula), holds("T"), holds("C" + formula), holds("E" + formula),
                                    holds(formula), truth("C" + formula)])[-6:]
                if found[0] != [-10]:
                    self.assertEqual(found[1][1:], found[2][1:])
                    self.assertEqual(found[1], found[3])
                    self.assertEqual(found[1], found[4])
                    self.assertEqual(found[5], [0, 1])
                    told += found[0] != [0, 8]
        self.assertGreater(told, 40)

    def test_it_was_not_before(self):
        made = [state(1), state(0), link(0, 1, 2), link(0, 2, 1), link(0, 1, 1), so(1)]
        found = ask(made + [holds("C0"), tell("0"), holds("C0"), truth("C0")])
        self.assertEqual(found[-4:], [[0], [0, 1], [0, 1], [0, 1]])

    def test_of_knowing_it_need_not_be(self):
        """Told that a doesn't know 0: behind it a does."""
        made = [state(1), state(0), link(0, 1, 2), link(0, 1, 1), link(0, 2, 2), so(1)]
        found = ask(made + [tell("(0&~Ka0)"), truth("C(0&~Ka0)"), truth("Ka0")])
        self.assertEqual(found[-3:], [[0, 1], [0, 0], [0, 1]])
