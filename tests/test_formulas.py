"""What is a formula, and in which states it holds: the calls holds and truth."""

import itertools

from tests.helper import Case, Maker, again, ask, chain, depth, drop, holds, last, link, minds, plain_where, reduce, show
from tests.helper import so, state, tell, together, tree, truth, whisper

ONE = [state(0), so(1)]


def whisper_to_a(formula):
    return whisper(0, formula)


def show_a(formula):
    return show(0, formula)


ASKED = (holds, truth, reduce, tell, whisper_to_a, show_a, again, chain, minds)


def nested(sign, deep):
    """A formula of that depth that the sign makes deep."""
    found = "T"
    for each in range(deep - 1):
        found = sign.replace("f", found)
    return found


DEEPENED = ("~f", "(f&T)", "(T&f)", "(f|0)", "(0|f)", "Kaf", "Kdf", "Ef", "Cf", "[f]T", "[T]f", "[0]f")


class Texts(Case):
    def no_formula(self, formula):
        for call in ASKED:
            self.told_last(ONE + [call(formula)], [-1])

    def test_formulas(self):
        for formula in ("T", "0", "7", "~T", "(0&1)", "(0|1)", "Ka0", "Kb0", "Kc0", "Kd0", "E0", "C0", "[0]1",
                        "[[0]1][2]3", "~(Ka~0|[E1]~C(2&T))", "KaKbKcKd7", "[(0&1)](0|1)"):
            self.assertEqual(last([holds(formula)]), [0], formula)

    def test_not_formulas(self):
        for formula in ("", "8", "9", "/", ":", "t", "U", "S", "-", "~", "K", "Ka", "Ke0", "K`0", "KA0", "K0", "KT",
                        "Kaa0", "E", "C", "e0", "c0", "k0", "ka0", "a0", "d", "[", "[0", "[0]", "[]0", "[0}1", "[01",
                        "(", ")", "()", "(0)", "(0&", "(0&1", "(0&)", "(&0)", "(0+1)", "(0&1]", "(0&1|2)", "0&1",
                        "(0&&1)", "(01)", "]", "&", "|", "[0)1", "(0]1)", "{0&1}", "~)", "(~&0)", "[0]1]", "(0&1))"):
            self.no_formula(formula)

    def test_something_before_between_or_behind(self):
        for formula in (" 0", "0 ", "~ 0", "( 0&1)", "(0 &1)", "(0& 1)", "(0&1 )", "K a0", "Ka 0", "[ 0]1", "[0 ]1",
                        "[0] 1", "00", "TT", "0T", "~00", "(0&1)2", "[0]12", "\n0", "0\n", "0\0", "\t0", "((0&1))"):
            self.no_formula(formula)

    def test_bytes_at_the_edges(self):
        for code in (0, 1, 47, 56, 83, 85, 127, 128, 254, 255):
            self.no_formula([code])
            self.no_formula([48, code])
            self.no_formula([126, code])
            self.no_formula([75, code, 48])
            self.no_formula([40, 48, code, 48, 41])

    def test_every_byte_alone(self):
        begun = [code for code in range(256) if last([holds([code])]) == [0]]
        self.assertEqual(bytes(begun).decode(), "01234567T")

    def test_every_byte_as_agent(self):
        named = [code for code in range(256) if last([holds([75, code, 48])]) == [0]]
        self.assertEqual(bytes(named).decode(), "abcd")

    def test_every_byte_between_two_formulas(self):
        joining = [code for code in range(256) if last([holds([40, 48, code, 48, 41])]) == [0]]
        self.assertEqual(bytes(joining).decode(), "&|")

    def test_every_byte_behind(self):
        for first, last_byte in (("(0&1", ")"), ("(0|1", ")")):
            ending = [code for code in range(256) if last([holds(list(first.encode()) + [code])]) == [0]]
            self.assertEqual(bytes(ending).decode(), last_byte)
        ending = [code for code in range(256) if last([holds([91, 48, code, 48])]) == [0]]
        self.assertEqual(bytes(ending).decode(), "]")

    def test_all_short_texts(self):
        """Of all texts of up to 5 of these signs just those that the grammar makes are formulas."""
        signs = "0~Ka(&)[]"
        made = {1: {"0"}}
        for length in range(2, 6):
            made[length] = {"~" + f for f in made[length - 1]}
            made[length] |= {"Ka" + f for f in made.get(length - 2, ())}
            for first, second in itertools.product(range(1, length), repeat=2):
                pairs = list(itertools.product(made.get(first, ()), made.get(second, ())))
                if first + second + 3 == length:
                    made[length] |= {"(" + f + "&" + g + ")" for f, g in pairs}
                if first + second + 2 == length:
                    made[length] |= {"[" + f + "]" + g for f, g in pairs}
        for length in range(1, 6):
            texts = ["".join(found) for found in itertools.product(signs, repeat=length)]
            taken = set()
            for start in range(0, len(texts), 400):
                asked = texts[start:start + 400]
                found = ask([holds(formula) for formula in asked])
                self.assertLessEqual({tuple(answer) for answer in found}, {(0,), (-1,)})
                taken |= {formula for formula, answer in zip(asked, found) if answer == [0]}
            self.assertEqual(taken, made[length])


class Depths(Case):
    def test_forty_deep_and_no_deeper(self):
        for sign in DEEPENED:
            for call in (holds, truth, reduce):
                self.assertEqual(depth(tree(nested(sign, 40))), 40)
                self.assertNotIn(last(ONE + [call(nested(sign, 40))]), ([-1], [-2]), sign)
                self.assertEqual(last(ONE + [call(nested(sign, 41))]), [-2], sign)
            for call in ASKED:
                self.assertEqual(last(ONE + [call(nested(sign, 41))]), [-2], sign)

    def test_deep_in_both_or_in_one_part_alone(self):
        deep = nested("~f", 40)
        for formula in ("(0&" + deep + ")", "(" + deep + "|0)", "[" + deep + "]0", "[0]" + deep, "Kb" + deep):
            self.assertEqual(last([holds(formula)]), [-2], formula)
        less = nested("~f", 39)
        for formula in ("(" + less + "&" + less + ")", "[" + less + "]" + less):
            self.assertEqual(last([holds(formula)]), [0], formula)

    def test_wide_is_not_deep(self):
        self.assertEqual(last([holds(together(["0"] * 100))]), [0])

    def test_texts_of_four_hundred_bytes(self):
        self.assertEqual(last([holds("~" * 399 + "T")]), [-2])
        self.assertEqual(last([holds("~" * 400)]), [-1])
        self.assertEqual(last([holds("(" * 400)]), [-1])
        self.assertEqual(last([holds("[" * 200 + "0" + "]0" * 99 + "]")]), [-1])
        self.assertEqual(last([holds("(" * 99 + "0" + "&0)" * 99 + "9")]), [-1])
        self.assertEqual(last([holds("(" * 99 + "0" + "&0)" * 99)]), [-2])

    def test_formula_of_four_hundred_bytes(self):
        formula = "~~~" + together(["0"] * 100)
        self.assertEqual(len(formula), 400)
        self.assertEqual(ask([state(0), state(1), holds(formula), holds(formula[1:])])[2:], [[0, 1], [0, 2]])

    def test_no_formula_is_told_ahead_of_too_deep(self):
        self.assertEqual(last([holds("~" * 60 + "8")]), [-1])
        self.assertEqual(last([holds("~" * 60 + "0 ")]), [-1])
        self.assertEqual(last([holds("[" + "~" * 60 + "0]")]), [-1])

    def test_refused_formula_is_told_ahead_of_none_is_so(self):
        for call in (truth, tell, whisper_to_a, again, chain, minds):
            self.assertEqual(last([state(0), call("8")]), [-1])
            self.assertEqual(last([state(0), call(nested("~f", 41))]), [-2])
            self.assertEqual(last([state(0), call("T")]), [-7])


class Holds(Case):
    # 1 -a-> 2 -b-> 3 -c-> 1, and 4 that leads nowhere; d sees all but 4 from 1.
    RING = [state(1), state(3), state(5), state(8), link(0, 1, 2), link(1, 2, 3), link(2, 3, 1),
            link(3, 1, 1), link(3, 1, 2), link(3, 1, 3)]

    def held(self, formula, expected, made=None):
        self.told_last((self.RING if made is None else made) + [holds(formula)], [0] + expected)

    def test_no_states(self):
        self.held("T", [], [])
        self.held("C~T", [], [])

    def test_atoms_and_joins(self):
        self.held("T", [1, 2, 3, 4])
        self.held("0", [1, 2, 3])
        self.held("3", [4])
        self.held("7", [])
        self.held("~0", [4])
        self.held("(1|2)", [2, 3])
        self.held("(0&1)", [2])
        self.held("(0&3)", [])
        self.held("(1|~0)", [2, 4])

    def test_knowing(self):
        self.held("Ka1", [1, 2, 3, 4])
        self.held("Ka2", [2, 3, 4])
        self.held("Kb2", [1, 2, 3, 4])
        self.held("Kb1", [1, 3, 4])
        self.held("Kc~(1|2)", [1, 2, 3, 4])
        self.held("Kd0", [1, 2, 3, 4])
        self.held("Kd1", [2, 3, 4])
        self.held("Kd~T", [2, 3, 4])
        self.held("KaKb2", [1, 2, 3, 4])

    def test_everybody(self):
        self.held("E0", [1, 2, 3, 4])
        self.held("E1", [4])
        self.held("E2", [2, 4])
        self.held("E~T", [4])

    def test_everybody_is_all_four(self):
        for agent in range(4):
            self.held("E0", [2], [state(1), state(0), link(agent, 1, 2)])

    def test_common(self):
        self.held("C0", [1, 2, 3, 4])
        self.held("C1", [4])
        self.held("C~T", [4])
        self.held("C(0|~0)", [1, 2, 3, 4])

    def test_common_is_of_one_link_or_more(self):
        """What doesn't hold here may be common knowledge, but not where a chain leads back."""
        made = [state(0), state(1), link(0, 1, 2)]
        self.held("C0", [1, 2], made)
        self.held("C0", [], made + [link(1, 2, 1)])
        self.held("C0", [2], made + [link(1, 1, 1)])

    def test_common_over_long_chains(self):
        made = [state(1) for each in range(15)] + [state(0)]
        made += [link(number % 4, number, number + 1) for number in range(1, 16)]
        self.held("C0", [16], made)
        self.held("C~0", [15, 16], made)
        self.held("C0", [], made + [link(0, 16, 8)])
        self.held("C0", list(range(1, 16)), made + [drop(16)])
        self.held("C0", [1, 2, 3, 4, 5, 6, 7, 16], made + [drop(8)])

    def test_common_over_chains_that_lead_back(self):
        made = [state(1), state(1), state(1), link(0, 1, 2), link(1, 2, 1), link(2, 3, 3)]
        self.held("C0", [1, 2, 3], made)
        self.held("C0", [3, 4], made + [state(0), link(3, 2, 4)])
        self.held("C0", [3, 4], made + [state(0), link(3, 2, 4), link(3, 1, 1)])

    def test_told(self):
        self.held("[3]~T", [1, 2, 3])
        self.held("[0]T", [1, 2, 3, 4])
        self.held("[T]0", [1, 2, 3])
        self.held("[~T]~T", [1, 2, 3, 4])

    def test_told_with_links_only_between_states_left(self):
        self.held("[~1]Ka~T", [1, 2, 3, 4])
        self.held("Ka~T", [2, 3, 4])
        self.held("[~1]Kd~1", [1, 2, 3, 4])
        self.held("Kd~1", [2, 3, 4])

    def test_told_with_chains_only_through_states_left(self):
        """The chain to the state without 0 leads through 2 alone, and 2 goes."""
        made = [state(1), state(3), state(0), link(0, 1, 2), link(1, 2, 3)]
        self.held("C0", [3], made)
        self.held("C~T", [3], made)
        self.held("[~1]C0", [1, 2, 3], made)
        self.held("[~1]C~T", [1, 2, 3], made)
        self.held("[1]C~T", [1, 2, 3], made)

    def test_told_and_told_again(self):
        """The second is asked in the model that the first has left."""
        made = [state(0), state(1), state(3), link(0, 2, 1), link(0, 3, 2), link(0, 2, 2)]
        self.held("Ka0", [1, 3], made)
        self.held("[0]Ka0", [1, 2, 3], made)
        self.held("[0][Ka0]Ka0", [1, 2, 3], made)
        self.held("[0][~1]Ka~T", [1, 3], made)
        self.held("[[0]Ka0]Ka0", [1, 3], made)

    def test_what_is_behind_a_told_one_is_asked_in_the_whole_model_again(self):
        made = [state(0), state(1), link(0, 2, 1)]
        self.held("([0]Ka0&Ka0)", [1], made)
        self.held("(Ka0|[0]Ka0)", [1, 2], made)
        self.held("[[0]~T]Ka~0", [1, 2], made)
        self.held("~[0]~Ka0", [2], made)

    def test_states_are_listed_by_their_numbers(self):
        self.held("0", [2, 4, 5], [state(1), state(1), state(0), state(1), state(1), drop(1)])

    def test_holds_changes_nothing(self):
        found = ask(self.RING + [holds("[0]Ka1"), holds("C1"), holds("[0]Ka1"), holds("C1")])
        self.assertEqual(found[-4:-2], found[-2:])


class Truth(Case):
    def test_truth(self):
        made = [state(1), state(0), link(0, 1, 2), so(1)]
        for formula, expected in (("0", 1), ("1", 0), ("Ka0", 0), ("Ka~0", 1), ("Kb~T", 1), ("C~0", 1), ("[0]Ka~T", 1)):
            self.told_last(made + [truth(formula)], [0, expected])

    def test_none_is_so(self):
        self.told_last([truth("T")], [-7])
        self.told_last([state(0), truth("T")], [-7])
        self.told_last([state(0), so(2), truth("T")], [-7])

    def test_truth_is_holding_there(self):
        maker = Maker(6)
        for each in range(60):
            masks, links, made = maker.model(5, 12)
            formula = maker.formula(5)
            asked = [so(3), truth(formula), holds(formula)]
            found = ask(made + asked)
            self.assertEqual(found[-2], [0, int(3 in found[-1][1:])])


class Plainly(Case):
    def test_many_formulas_over_many_models(self):
        """Holds answers as the document's words, done plainly, do."""
        maker = Maker(5)
        for each in range(250):
            masks, links, made = maker.model(maker.random.randint(1, 8), maker.random.randint(0, 24))
            formulas = [maker.formula(maker.random.randint(1, 7)) for each in range(8)]
            formulas = [formula for formula in formulas if len(formula) <= 400]
            found = ask(made + [holds(formula) for formula in formulas])[len(made):]
            for formula, answer in zip(formulas, found):
                self.assertEqual(answer, [0] + sorted(plain_where(masks, links, tree(formula))), formula)
