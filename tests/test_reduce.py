"""The call reduce, and promise 1: a formula reduced holds in the same states of every model."""

from tests.helper import Case, Maker, ask, depth, has_common, holds, last, link, plain_reduced, plain_where, reduce
from tests.helper import refused_common, size, so, spell, state, tell, text, together, tree, truth

LARGEST = 3000


def of_size(wanted):
    """A formula of that size, without tellings: an atom under `~`s, or several joined."""
    if wanted <= 30:
        return "~" * (wanted - 1) + "0"
    return "~" * (2 - wanted % 2 - 1) + together(["0"] * ((wanted + wanted % 2) // 2))


class Reduced(Case):
    def reduced(self, formula, expected):
        self.assertEqual(text(last([reduce(formula)])), expected)

    def test_nothing_told_stays(self):
        for formula in ("T", "0", "7", "~1", "(0&1)", "(0|T)", "Ka0", "Kb0", "Kc0", "Kd0", "E0", "C0", "CCE~Kd(0|C7)"):
            self.reduced(formula, formula)

    def test_each_sign_behind_a_told_one(self):
        self.reduced("[0]T", "T")
        self.reduced("[0]1", "(~0|1)")
        self.reduced("[0]~1", "(~0|~(~0|1))")
        self.reduced("[0](1&2)", "((~0|1)&(~0|2))")
        self.reduced("[0](1|2)", "((~0|1)|(~0|2))")
        self.reduced("[0]Ka1", "(~0|Ka(~0|1))")
        self.reduced("[0]Kd1", "(~0|Kd(~0|1))")
        self.reduced("[0]E1", "(~0|E(~0|1))")
        self.reduced("[0]~T", "(~0|~T)")
        self.reduced("[0]KbT", "(~0|KbT)")
        self.reduced("[0]ET", "(~0|ET)")
        self.reduced("[0](T&T)", "(T&T)")
        self.reduced("[0](T|1)", "(T|(~0|1))")

    def test_told_in_other_signs(self):
        self.reduced("~[0]1", "~(~0|1)")
        self.reduced("([0]1&[2]3)", "((~0|1)&(~2|3))")
        self.reduced("(0|[2]3)", "(0|(~2|3))")
        self.reduced("Kc[0]1", "Kc(~0|1)")
        self.reduced("E[0]1", "E(~0|1)")
        self.reduced("C[0]1", "C(~0|1)")

    def test_told_in_what_is_told(self):
        self.reduced("[[0]1]2", "(~(~0|1)|2)")
        self.reduced("[~[0]1]Ka2", "(~~(~0|1)|Ka(~~(~0|1)|2))")

    def test_told_behind_what_is_told(self):
        self.reduced("[0][1]2", "((~0|~(~0|1))|(~0|2))")
        self.reduced("[0][1]T", "T")
        self.reduced("[0][T]1", "((~0|~T)|(~0|1))")
        self.reduced("[0][1]~T", "((~0|~(~0|1))|(~0|~T))")

    def test_depth_may_be_beyond_forty(self):
        formula = "[0]" + "~" * 38 + "1"
        reduced = tree(text(last([reduce(formula)])))
        self.assertEqual(reduced, plain_reduced(tree(formula)))
        self.assertGreater(depth(reduced), 40)

    def test_very_deep(self):
        formula = "[T][T][T][T]" + "~" * 35 + "1"
        self.assertEqual(depth(tree(formula)), 40)
        found = text(last([reduce(formula)]))
        self.assertEqual(found, spell(plain_reduced(tree(formula))))
        self.assertGreater(depth(tree(found)), 100)

    def test_many_formulas(self):
        """Reduce answers as the document's words, done plainly, do."""
        maker = Maker(7)
        seen = {-8: 0, -9: 0, 0: 0}
        for each in range(60):
            signs = ["T0123~~&|KKE[[", "T01~&|KEC[[[[", "01~K[[[[[[[["][each % 3]
            formulas = [maker.formula(maker.random.randint(1, 5), signs) for count in range(50)]
            for formula, answer in zip(formulas, ask([reduce(formula) for formula in formulas])):
                node = tree(formula)
                if refused_common(node):
                    expected = [-8]
                elif size(plain_reduced(node)) > LARGEST:
                    expected = [-9]
                else:
                    expected = [0] + list(spell(plain_reduced(node)).encode())
                self.assertEqual(answer, expected, formula)
                seen[expected[0]] += 1
        self.assertGreater(min(seen.values()), 20)

    def test_model_does_not_matter_and_stays(self):
        made = [state(1), state(0), link(0, 1, 2), so(1)]
        found = ask(made + [reduce("[0]Ka0"), holds("Ka0"), holds("T"), truth("0")])[4:]
        self.assertEqual(found, [[0] + list(b"(~0|Ka(~0|0))"), [0, 2], [0, 1, 2], [0, 1]])


class CommonTold(Case):
    def test_behind_what_is_told(self):
        for formula in ("[0]C1", "[0]~C1", "[0](1&C1)", "[0](C1|1)", "[0]KaC1", "[0]EC1", "[0]C1", "~[0]C1", "C[0]C1",
                        "[0][1]C2", "[0]CT", "[T]CT", "([0]C1&1)", "(1|[0]C1)", "Ka[0]C1", "[0]~~~~~(1|Kb(2&EC3))"):
            self.told_last([reduce(formula)], [-8])

    def test_told_behind_what_is_told(self):
        for formula in ("[0][C1]2", "[0][C1]T", "[0]~[(1&C2)]3", "[0][[C1]2]3", "[0]([C1]2|3)", "[0][~C1][2]3"):
            self.told_last([reduce(formula)], [-8])

    def test_behind_what_is_told_in_what_is_told(self):
        for formula in ("[[0]C1]2", "[[0]C1]T", "[~[0]KaC1]2"):
            self.told_last([reduce(formula)], [-8])

    def test_told_alone(self):
        for formula, expected in (("[C0]1", "(~C0|1)"), ("[C0]T", "T"), ("[~C0]Ka1", "(~~C0|Ka(~~C0|1))"),
                                  ("[[C0]1]2", "(~(~C0|1)|2)"), ("(C0&[1]2)", "(C0&(~1|2))"),
                                  ("[C[0]1]2", "(~C(~0|1)|2)"), ("[[C0]T]2", "(~T|2)")):
            self.assertEqual(text(last([reduce(formula)])), expected)

    def test_other_refusals(self):
        self.told_last([reduce("[0]C")], [-1])
        self.told_last([reduce("[0]C" + "~" * 39 + "0")], [-2])
        self.told_last([reduce("[0]" * 30 + "C0")], [-8])
        self.told_last([reduce("(" + "[0]" * 30 + "1&[0]C0)")], [-8])

    def test_refusal_changes_nothing(self):
        made = [state(1), state(0), link(0, 1, 2), so(1)]
        found = ask(made + [reduce("[0]C1"), reduce("[0]" * 30 + "1"), holds("T"), holds("Ka~T"), truth("0")])[4:]
        self.assertEqual(found, [[-8], [-9], [0, 1, 2], [0, 2], [0, 1]])


class Sizes(Case):
    def sized(self, formula, expected):
        """The size of the formula reduced is as expected, and it's refused just if that's too large."""
        self.assertLessEqual(len(formula), 400)
        self.assertEqual(size(plain_reduced(tree(formula))), expected)
        answer = last([reduce(formula)])
        if expected > LARGEST:
            self.assertEqual(answer, [-9])
        else:
            self.assertEqual(text(answer), spell(plain_reduced(tree(formula))))

    def test_largest_behind_a_told_one(self):
        """81 atoms and 2 T behind a formula of size 33, and ones a little off."""
        told = "[" + of_size(33) + "]"
        self.sized(told + together(["0"] * 81 + ["T"] * 2), 3000)
        self.sized(told + together(["0"] * 81 + ["T"]), 2998)
        self.sized(told + together(["0"] * 81 + ["T"] * 3), 3002)
        self.sized("[" + of_size(34) + "]" + together(["0"] * 79), 3001)

    def test_largest_in_other_signs(self):
        told = "[" + of_size(56) + "]" + together(["0"] * 50)
        self.sized(told, 2999)
        for sign in ("~", "Ka", "E", "C"):
            self.sized(sign + told, 3000)
            self.sized(sign + sign + told, 3001)
        self.sized("(" + told + "&~0)", 3002)
        less = "[" + of_size(71) + "]" + together(["0"] * 40)
        self.sized(less, 2999)
        self.sized("(0&" + less + ")", 3001)
        self.sized("(T|" + less + ")", 3001)

    def test_largest_joined(self):
        """Each of the two is small enough alone."""
        part = "[" + of_size(26) + "]" + together(["0"] * 50)
        self.sized(part, 1499)
        self.sized("(" + part + "&[0](T|T))", 1503)
        part = "[" + "~" * 25 + together(["0"] * 16) + "]" + together(["0"] * 25)
        self.sized(part, 1499)
        self.sized("(" + part + "|" + part + ")", 2999)
        self.sized("~(" + part + "|" + part + ")", 3000)
        self.sized("~~(" + part + "&" + part + ")", 3001)

    def test_largest_told(self):
        """What is told is large itself; a little more in front of it is too much."""
        told = "[" + "~" * 25 + together(["0"] * 16) + "]" + together(["0"] * 49)
        self.sized(told, 2939)
        self.sized("[" + told + "]0", 2942)
        self.sized("[" + "~" * 8 + told + "]" + together(["0"] + ["T"] * 25), 3000)
        self.sized("[" + "~" * 7 + told + "]" + together(["0"] + ["T"] * 26), 3001)

    def test_very_great_ones(self):
        for formula in ("[0]" * 39 + "1", "[Ka0]" * 38 + "1", "[0]" * 20 + "~" * 19 + "1",
                        "[" + "[(0&1)]" * 36 + "2]3", "([0]1&" + "[0]" * 38 + "1)",
                        "~" + "[[0]1]" * 30 + "1", "C" + "[E0]" * 37 + "1",
                        "[0]" * 19 + together(["[1]~0"] * 40)):
            self.assertLessEqual(len(formula), 400)
            self.told_last([reduce(formula)], [-9])

    def test_sixty_very_great_ones(self):
        self.told([reduce("[Ka(0&E1)]" * 36 + "1")] * 60, [[-9]] * 60)

    def test_very_great_ones_that_leave_nothing(self):
        """Behind what's told T is T, so what's told is gone, however great it would be."""
        great = "[0]" * 36 + "1"
        for formula, expected in (("[" + great + "]T", "T"), ("[" + great + "](T&T)", "(T&T)"),
                                  ("(" + "[" + great + "]T|1)", "(T|1)"), ("[[" + great + "]T]1", "(~T|1)"),
                                  ("[0][" + great + "](T|T)", "(T|T)"), ("[" + great + "][1]T", "T"),
                                  ("[0]" * 39 + "T", "T")):
            self.assertEqual(text(last([reduce(formula)])), expected)
        self.told_last([reduce("[" + great + "]~T")], [-9])
        self.told_last([reduce("[" + great + "](T&0)")], [-9])
        self.told_last([reduce("[[" + great + "]0]T")], [0, 84])
        self.told_last([reduce("[[[" + great + "]T]0]1")], [0] + list(b"(~(~T|0)|1)"))

    def test_told_in_told_stays_small(self):
        self.sized("[" * 39 + "0" + "]0" * 39, 118)


class PromiseOne(Case):
    def test_holds_in_the_same_states(self):
        """Asked of the program both ways, over models of several states and links."""
        maker = Maker(1)
        compared = 0
        for each in range(120):
            formulas = self.without_common_told(maker, 25)
            answers = ask([reduce(formula) for formula in formulas])
            pairs = [(formula, text(answer)) for formula, answer in zip(formulas, answers) if answer != [-9]]
            pairs = [pair for pair in pairs if len(pair[1]) <= 400 and depth(tree(pair[1])) <= 40]
            made = maker.model(maker.random.randint(2, 8), maker.random.randint(2, 24))[2]
            found = ask(made + [holds(formula) for pair in pairs for formula in pair])[len(made):]
            for place, pair in enumerate(pairs):
                self.assertEqual(found[2 * place], found[2 * place + 1], pair)
                compared += "[" in pair[0]
        self.assertGreater(compared, 300)

    def test_large_ones_hold_in_the_same_states(self):
        """Where the formula reduced is too long to be asked, it's looked at plainly."""
        maker = Maker(2)
        compared = 0
        for each in range(60):
            formulas = self.without_common_told(maker, 50)
            masks, links, made = maker.model(5, 14)
            found = ask(made + [reduce(formula) for formula in formulas] + [holds(formula) for formula in formulas])
            found = found[len(made):]
            for place, formula in enumerate(formulas):
                if found[place] != [-9] and len(found[place]) > 401:
                    where = plain_where(masks, links, tree(text(found[place])))
                    self.assertEqual(found[len(formulas) + place], [0] + sorted(where), formula)
                    compared += 1
        self.assertGreater(compared, 20)

    def without_common_told(self, maker, count):
        found = []
        while len(found) < count:
            formula = maker.formula(maker.random.randint(2, 6), "T01~~&|KKE[[[" + maker.random.choice("CK"))
            if len(formula) <= 400 and not refused_common(tree(formula)):
                found.append(formula)
        return found

    def test_nothing_is_told_in_what_is_answered(self):
        maker = Maker(3)
        for each in range(20):
            formulas = self.without_common_told(maker, 20)
            for formula, answer in zip(formulas, ask([reduce(formula) for formula in formulas])):
                if answer != [-9]:
                    self.assertNotIn("[", text(answer))
                    self.assertLessEqual(has_common(tree(text(answer))), has_common(tree(formula)))

    def test_after_a_tell(self):
        """What's told openly is true behind it just if `[f]g` was before it."""
        maker = Maker(4)
        for each in range(150):
            masks, links, made = maker.model(5, 12)
            first, second = maker.formula(3), maker.formula(3)
            if len(first) + len(second) < 350:
                found = ask(made + [so(2), truth(first), truth("[" + first + "]" + second), tell(first), truth(second)])
                if found[-4] == [0, 1]:
                    self.assertEqual(found[-3], found[-1])
                else:
                    self.assertEqual(found[-3:-1], [[0, 1], [-10]])
