"""The call alike, and promise 2."""

import itertools

from tests.helper import GREATEST, LEAST, Case, Maker, PlainParting, alike, behind, drop, holds, link, model, plain_answers
from tests.helper import plain_gone, plain_holds, plain_rounds, size, so, spell, state, tell, tree, undo

DEEP = "~" * 40 + "T"


def parted(answer):
    """The round and the formula of an answer of alike."""
    if answer[:2] != [0, 0]:
        raise ValueError(f"not parted: {answer}")
    return answer[2], bytes(answer[3:]).decode("ascii")


def knowing_depth(node):
    """How deep knowing is nested in a formula of K and E."""
    return (node[0][0] in "KE") + max((knowing_depth(part) for part in node[1:]), default=0)


def order(count, mask=0):
    """States in which the agent a takes all of the lower ones for possible."""
    made = [state(mask)] * count
    return made + [link(0, high, low) for high in range(2, count + 1) for low in range(1, high)]


class Alike(Case):
    def parts(self, made, first, second, count, formula):
        self.assertEqual(parted(behind(made, [alike(first, second)])[0]), (count, formula))

    def test_state_and_itself(self):
        self.told_behind([state(0)], [alike(1, 1)], [[0, 1]])
        self.told_behind([state(5), state(5), link(0, 1, 2)], [alike(1, 1), alike(2, 2)], [[0, 1], [0, 1]])

    def test_alike(self):
        self.told_behind([state(3), state(3)], [alike(1, 2), alike(2, 1)], [[0, 1], [0, 1]])
        made = [state(0), state(0), state(1), state(1), link(0, 1, 3), link(0, 2, 4), link(0, 2, 3)]
        self.told_behind(made, [alike(1, 2), alike(2, 1), alike(3, 4)], [[0, 1]] * 3)

    def test_alike_on_rings(self):
        """A state that leads to itself, and rings of two and of three."""
        made = [state(0)] * 6 + [link(0, 1, 1), link(0, 2, 3), link(0, 3, 2), link(0, 4, 5), link(0, 5, 6), link(0, 6, 4)]
        self.told_behind(made, [alike(u, v) for u in range(1, 7) for v in range(1, 7)], [[0, 1]] * 36)

    def test_atoms(self):
        """Round 0: the least atom that's so in just one of them."""
        made = [state(0b00000001), state(0b00000000), state(0b10000000), state(0b00000110), state(0b00001010)]
        self.parts(made, 1, 2, 0, "0")
        self.parts(made, 2, 1, 0, "~0")
        self.parts(made, 2, 3, 0, "~7")
        self.parts(made, 3, 2, 0, "7")
        self.parts(made, 1, 3, 0, "0")
        self.parts(made, 4, 5, 0, "2")
        self.parts(made, 5, 4, 0, "~2")
        self.parts(made, 4, 1, 0, "~0")

    def test_links_do_not_matter_in_round_0(self):
        self.parts([state(1), state(0), link(0, 1, 1)], 1, 2, 0, "0")

    def test_one_of_them_sees_none(self):
        made = [state(0), state(0), link(1, 1, 2)]
        self.parts(made, 1, 2, 1, "~Kb~T")
        self.parts(made, 2, 1, 1, "Kb~T")

    def test_each_agent(self):
        for agent, name in enumerate("abcd"):
            made = [state(0), state(0), link(agent, 1, 1)]
            self.parts(made, 1, 2, 1, "~K" + name + "~T")
            self.parts(made, 2, 1, 1, "K" + name + "~T")

    def test_only_one_is_seen(self):
        made = [state(0), state(0), state(1), state(0), link(0, 1, 3), link(0, 2, 4)]
        self.parts(made, 1, 2, 1, "~Ka~0")
        self.parts(made, 2, 1, 1, "~Ka~~0")
        more = made + [link(0, 2, 3)]
        self.parts(more, 1, 2, 1, "Ka0")
        self.parts(more, 2, 1, 1, "~Ka~~0")

    def test_several_are_seen(self):
        """The formulas that part from each stand in the order of the states, whatever the order of the links."""
        made = [state(0), state(0), state(7), state(6), state(5), state(3)]
        some = [link(2, 1, 3), link(2, 2, 6), link(2, 2, 4), link(2, 2, 5)]
        self.parts(made + some, 1, 2, 1, "~Kc~(0&(1&2))")
        self.parts(made + some[:3], 1, 2, 1, "~Kc~(0&2)")
        self.parts(made + some, 2, 1, 1, "~Kc~~0")
        every = made + some + [link(2, 1, 6), link(2, 1, 4), link(2, 1, 5)]
        self.parts(every, 2, 1, 1, "Kc(~0|(~1|~2))")
        self.parts(made + [link(2, 1, 4), link(2, 1, 6), link(2, 2, 4), link(2, 2, 6), link(2, 2, 3)], 1, 2, 1,
                   "Kc(~0|~2)")

    def test_four_joined(self):
        made = [state(0), state(0), state(15), state(14), state(13), state(11), state(7)]
        seen = [link(0, 2, number) for number in (7, 6, 5, 4)]
        self.parts(made + [link(0, 1, 3)] + seen, 1, 2, 1, "~Ka~(0&(1&(2&3)))")
        both = seen + [link(0, 1, number) for number in (4, 5, 6, 7)] + [link(0, 2, 3)]
        self.parts(made + both, 1, 2, 1, "Ka(~0|(~1|(~2|~3)))")

    def test_first_agent_then_first_state(self):
        """Both c and d would do, and for c the states 4 and 5; a and b would not."""
        made = [state(0), state(0), state(0), state(1), state(2)]
        made += [link(0, 1, 3), link(0, 2, 3), link(3, 1, 4), link(2, 1, 5), link(2, 1, 4), link(2, 1, 3), link(2, 2, 3)]
        self.parts(made, 1, 2, 1, "~Kc~0")
        self.parts(made, 2, 1, 1, "Kc~0")

    def test_first_agent_that_has_one_though_a_later_one_has_a_lower_state(self):
        made = [state(0), state(0), state(1), state(2), link(1, 1, 4), link(2, 1, 3)]
        self.parts(made, 1, 2, 1, "~Kb~T")
        self.parts(made + [link(1, 2, 3)], 1, 2, 1, "~Kb~~0")

    def test_what_is_seen_from_the_first_is_taken_ahead_of_a_lower_agent_seen_from_the_second(self):
        made = [state(0), state(0), state(1), link(3, 1, 3), link(0, 2, 3)]
        self.parts(made, 1, 2, 1, "~Kd~T")
        self.parts(made, 2, 1, 1, "~Ka~T")

    def test_box_is_taken_with_the_first_agent_and_state(self):
        made = [state(0), state(0), state(1), state(2), state(4), link(3, 2, 3), link(1, 2, 5), link(1, 2, 4)]
        self.parts(made, 1, 2, 1, "Kb~T")
        both = made + [link(1, 1, 3), link(1, 2, 3)]
        self.parts(both, 1, 2, 1, "Kb0")
        self.parts(both, 2, 1, 1, "~Kb~~0")

    def test_pairs_that_went_in_the_same_round_are_no_help(self):
        """1 and 2 go in round 2; their links by a lead to a pair that goes in round 2 itself, those by b to one of 1."""
        made = [state(0)] * 7 + [state(1)]
        made += [link(0, 1, 3), link(0, 2, 4), link(1, 1, 5), link(1, 2, 6), link(2, 3, 5), link(2, 4, 6), link(3, 5, 8)]
        self.parts(made, 3, 4, 2, "~Kc~~Kd~T")
        self.parts(made, 1, 2, 2, "~Kb~~Kd~T")

    def test_paths(self):
        """States one behind another: the pair of the n-th and the next ones from the end goes in round n."""
        made = [state(0)] * 16 + [link(0, number, number + 1) for number in range(1, 16)]
        for first, second in itertools.product(range(1, 17), repeat=2):
            count = 17 - max(first, second)
            if first < second:
                self.parts(made, first, second, count, "~Ka~" * count + "T")
            elif first > second:
                self.parts(made, first, second, count, "~Ka~" * (count - 1) + "Ka~T")

    def test_later_rounds(self):
        """By the order of states each is parted from the lower ones by all that's below."""
        one = "~Ka~T"
        two = "~Ka~" + one
        three = "~Ka~(" + one + "&" + two + ")"
        for high in range(2, 5):
            self.parts(order(4), high, 1, 1, one)
            self.parts(order(4), 1, high, 1, "Ka~T")
        self.parts(order(4), 3, 2, 2, two)
        self.parts(order(4), 2, 3, 2, "KaKa~T")
        self.parts(order(4), 4, 3, 3, three)
        self.parts(order(4), 3, 4, 3, "Ka(Ka~T|KaKa~T)")
        self.parts(order(5), 5, 4, 4, "~Ka~(" + one + "&(" + two + "&" + three + "))")

    def test_states_gone_do_not_count(self):
        made = [state(0), state(0), state(0), state(1), link(0, 1, 3), link(0, 2, 3), link(0, 2, 4)]
        self.told_behind(made, [drop(4), alike(1, 2)], [[0], [0, 1]])
        self.parts(made, 1, 2, 1, "Ka~0")

    def test_no_such_state(self):
        for number in (LEAST, -1, 0, 3, GREATEST):
            self.told_behind([state(0), state(0)], [alike(1, number), alike(number, 1), alike(number, number)], [[-4]] * 3)
        self.told_behind([state(0), state(0), drop(1)], [alike(1, 2), alike(2, 1), alike(1, 1)], [[-4]] * 3)
        self.told_behind([], [alike(1, 1)], [[-4]])

    def test_it_changes_nothing(self):
        made = [state(0), state(0), link(0, 1, 2), so(1), tell("T")]
        self.assertEqual(behind(made, [alike(1, 2), alike(1, 9), model(), undo(), undo()])[2:],
                         behind(made, [model(), undo(), undo()]))

    def test_numbers_are_not_places(self):
        made = [state(0), state(1), state(0), drop(1), state(3), link(0, 3, 4), link(0, 3, 2)]
        self.parts(made, 2, 4, 0, "~1")
        self.parts(made, 3, 2, 0, "~0")
        self.parts(made + [state(0), link(0, 5, 4)], 3, 5, 1, "~Ka~~1")


class Sizes(Case):
    # Of the order of 8 states the highest is parted from the others by formulas of these sizes.
    BELOW = {1: 4, 2: 7, 3: 15, 4: 31, 5: 63, 6: 127, 7: 255}

    def top(self, mask, other, low, shared):
        """The order, one more state, and two that the agent b parts.

        10 sees the highest and 11 the low one; both see those shared, so each of these has its partner.
        """
        made = order(8, mask) + [state(other), state(0), state(0), link(1, 10, 8), link(1, 11, low)]
        return made + [link(1, number, seen) for number in (10, 11) for seen in shared]

    def sized(self, made, first, second, expected):
        found = behind(made, [alike(first, second), alike(first, second)])
        if expected > 300:
            self.assertEqual(found, [[-9]] * 2)
        else:
            self.assertEqual(size(tree(parted(found[0])[1])), expected)

    def test_sizes_below(self):
        for low, expected in self.BELOW.items():
            self.sized(order(8), 8, low, expected)
        self.sized(order(9), 9, 7, 255)
        self.sized(order(9), 9, 8, 511)
        self.sized(order(16), 16, 15, 2 ** 16 - 1)

    def test_three_hundred_and_one_more(self):
        """One atom is so in the highest, `0`; or in the other one, `~0`."""
        self.sized(self.top(1, 0, 7, (2, 4, 9)), 10, 11, 300)
        self.sized(self.top(0, 1, 7, (2, 4, 9)), 10, 11, 301)
        self.sized(self.top(0, 1, 7, (1, 4, 9)), 10, 11, 298)
        self.assertEqual(parted(behind(self.top(1, 0, 7, (2, 4, 9)), [alike(10, 11)])[0])[0], 8)

    def test_three_hundred_plainly(self):
        made = self.top(1, 0, 7, (2, 4, 9))
        calls = made + [alike(10, 11), alike(11, 10)]
        self.assertEqual(behind(made, calls[len(made):]), plain_answers(calls)[len(made):])

    def test_one_more_around_three_hundred(self):
        """A formula of 300 is used: by a K it's 301, and by `~K~` more."""
        made = self.top(1, 0, 7, (2, 4, 9)) + [state(0), state(0)]
        box = made + [link(2, 12, 10), link(2, 13, 10), link(2, 13, 11)]
        self.sized(box, 12, 13, 301)
        self.sized(made + [link(2, 12, 10), link(2, 13, 11)], 12, 13, 303)
        less = self.top(0, 1, 7, (1, 4, 9)) + [state(0), state(0)]
        self.sized(less + [link(2, 12, 10), link(2, 13, 10), link(2, 13, 11)], 12, 13, 299)
        self.sized(less + [link(2, 12, 10), link(2, 13, 11)], 12, 13, 301)

    def test_box_of_three_hundred(self):
        """298 used by a K, and that by another K."""
        made = self.top(0, 1, 7, (1, 4, 9)) + [state(0)] * 4
        made += [link(2, 12, 10), link(2, 13, 10), link(2, 13, 11), link(3, 14, 12), link(3, 15, 12), link(3, 15, 13)]
        self.sized(made, 14, 15, 300)

    def test_joined_one_too_long(self):
        """Each one joined is short enough alone, all of them aren't: at once, or only with the first."""
        self.sized(self.top(0, 0, 7, (6,)), 10, 11, 386)
        self.sized(self.top(0, 0, 7, (5,)), 10, 11, 322)
        self.sized(self.top(0, 0, 7, (1, 5)), 10, 11, 327)
        self.sized(self.top(0, 1, 7, (1, 2, 4)), 10, 11, 303)
        self.sized(self.top(0, 0, 6, (4, 5)), 10, 11, 226)

    def test_one_that_is_used_is_too_long(self):
        made = order(9) + [state(0), state(0), link(1, 10, 9), link(1, 11, 8)]
        self.sized(made, 10, 11, 514)
        self.sized(made + [link(1, 10, 1), link(1, 11, 1)], 10, 11, 519)
        more = made + [state(0), state(0), link(2, 12, 10), link(2, 13, 10), link(2, 13, 11)]
        self.sized(more, 12, 13, 515)

    def test_too_long_is_told_of_states_that_are_there_alone(self):
        self.told_behind(order(9), [alike(9, 8), alike(9, 10), alike(10, 9), alike(8, 9)], [[-9], [-4], [-4], [-9]])

    def box_size(self, low):
        """The size of what parts the one of the order from higher ones: K and all that parts what's below."""
        found = {1: 3}
        for each in range(2, low + 1):
            found[each] = 1 + sum(found[below] for below in range(1, each)) + each - 2
        return found[low]

    def test_other_way_round(self):
        for low in range(1, 9):
            self.sized(order(9), low, 9, self.box_size(low))

    def test_refused_changes_nothing(self):
        made = order(9) + [so(9), tell("T")]
        self.assertEqual(behind(made, [alike(9, 8), model(), undo(), undo()])[1:], behind(made, [model(), undo(), undo()]))


class PromiseTwo(Case):
    def models(self, seed, count):
        """Models of several states and links, with their calls."""
        maker = Maker(seed)
        for each in range(count):
            yield maker, *maker.sparse_model(2)

    def pairs(self, masks):
        return list(itertools.product(masks, repeat=2))

    def test_as_the_words_say(self):
        """All pairs of many models: alike or not, the round, the formula."""
        rounds = {}
        for maker, masks, links, made in self.models(51, 120):
            parting = PlainParting(masks, links)
            pairs = self.pairs(masks)
            for (u, v), answer in zip(pairs, behind(made, [alike(u, v) for u, v in pairs])):
                count = plain_gone(parting.rounds, u, v)
                if count is None:
                    self.assertEqual(answer, [0, 1])
                else:
                    node = parting.formula(u, v)
                    self.assertEqual(answer, [-9] if node is None else [0, 0, count] + list(spell(node).encode()))
                rounds[count] = rounds.get(count, 0) + 1
        self.assertGreater(min(rounds[count] for count in (None, 0, 1, 2, 3, 4)), 10)

    def test_formula_told_parts_them(self):
        """It holds in u and not in v: asked of the program where a text may be so long, and plainly."""
        asked = 0
        for maker, masks, links, made in self.models(52, 120):
            pairs = self.pairs(masks)
            found = behind(made, [alike(u, v) for u, v in pairs])
            for (u, v), answer in zip(pairs, found):
                if answer[:2] == [0, 0]:
                    count, formula = parted(answer)
                    self.assertTrue(plain_holds(masks, links, u, tree(formula)))
                    self.assertFalse(plain_holds(masks, links, v, tree(formula)))
                    self.assertEqual(knowing_depth(tree(formula)), count)
                    if len(formula) <= 400 and count > 1:
                        where = behind(made, [holds(formula)])[0]
                        self.assertIn(u, where[1:])
                        self.assertNotIn(v, where[1:])
                        asked += 1
        self.assertGreater(asked, 200)

    def test_alike_states_answer_alike(self):
        """Every formula whatever, with tellings and common knowledge too, holds in both or in none."""
        compared = 0
        for maker, masks, links, made in self.models(53, 150):
            formulas = [maker.formula(5) for count in range(20)]
            formulas = [formula for formula in formulas if len(formula) <= 400]
            where = behind(made, [holds(formula) for formula in formulas])
            pairs = [(u, v) for u, v in self.pairs(masks) if u < v]
            for (u, v), answer in zip(pairs, behind(made, [alike(u, v) for u, v in pairs])):
                if answer == [0, 1]:
                    for found in where:
                        self.assertEqual(u in found[1:], v in found[1:])
                    compared += 1
        self.assertGreater(compared, 100)

    def test_no_formula_nested_less_deep_parts_them(self):
        compared = 0
        for maker, masks, links, made in self.models(54, 150):
            formulas = [maker.formula(6, "T01~~&|KKKE") for count in range(30)]
            formulas = [formula for formula in formulas if len(formula) <= 400]
            where = behind(made, [holds(formula) for formula in formulas])
            pairs = [(u, v) for u, v in self.pairs(masks) if u < v]
            for (u, v), answer in zip(pairs, behind(made, [alike(u, v) for u, v in pairs])):
                if answer[:2] == [0, 0]:
                    for formula, found in zip(formulas, where):
                        if knowing_depth(tree(formula)) < answer[2]:
                            self.assertEqual(u in found[1:], v in found[1:])
                            compared += answer[2] > 1
        self.assertGreater(compared, 500)

    def test_alike_is_the_same_both_ways(self):
        for maker, masks, links, made in self.models(55, 60):
            pairs = self.pairs(masks)
            found = dict(zip(pairs, behind(made, [alike(u, v) for u, v in pairs])))
            left = plain_rounds(masks, links)[-1]
            for u, v in pairs:
                self.assertEqual(found[(u, v)] == [0, 1], (u, v) in left)
                if -9 not in found[(u, v)] + found[(v, u)]:
                    self.assertEqual(found[(u, v)][:3], found[(v, u)][:3])
