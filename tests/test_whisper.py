"""The call whisper, and of promise 4 what speaks of it."""

from tests.helper import GREATEST, LEAST, Case, Maker, Plain, ask, behind, drop, holds, link, minds, model, so, state
from tests.helper import tell, truth, undo, whisper, whole

# 1 and 2 can't be told apart by a and b; the atom 0 is so in 1 alone.
COIN = [state(1), state(0)] + [link(agent, start, end) for agent in (0, 1) for start in (1, 2) for end in (1, 2)] + [so(1)]
COIN_LINKS = {(agent, start, end) for agent in (0, 1) for start in (1, 2) for end in (1, 2)}
DEEP = "~" * 40 + "T"


def dense(states, count, agents=(1, 2, 3)):
    """So many links from the first states to any of eight."""
    found = [link(agent, start, end) for agent in agents for start in range(1, states + 1) for end in range(1, 9)]
    if len(found) < count:
        raise ValueError("not so many")
    return found[:count]


class Whisper(Case):
    def test_one_learns_it_and_the_other_does_not(self):
        self.told_behind(COIN, [whisper(0, "0"), truth("Ka0"), truth("Kb0"), truth("Kb~Ka0"), truth("0"), holds("T")],
                         [[0, 3], [0, 1], [0, 0], [0, 1], [0, 1], [0, 1, 2, 3]])

    def test_links_of_a_copy(self):
        """The agent's lead to copies, those of the others to old states, and old states keep theirs."""
        links = COIN_LINKS | {(0, 3, 3), (1, 3, 1), (1, 3, 2)}
        self.told_behind(COIN, [whisper(0, "0"), model()], [[0, 3], whole(3, {1: 1, 2: 0, 3: 1}, links)])

    def test_to_each_agent(self):
        made = [state(1), state(0)] + [link(agent, 1, end) for agent in range(4) for end in (1, 2)] + [so(1)]
        old = {(agent, 1, end) for agent in range(4) for end in (1, 2)}
        for told in range(4):
            links = {(agent, 3, end) for agent in range(4) if agent != told for end in (1, 2)} | {(told, 3, 3)}
            self.told_behind(made, [whisper(told, "0"), model()], [[0, 3], whole(3, {1: 1, 2: 0, 3: 1}, old | links)])

    def test_copies_in_the_order_of_what_they_are_copies_of(self):
        made = [state(5), state(8), state(3), state(7), state(1), drop(1), so(4)]
        self.told_behind(made, [whisper(2, "0"), model()],
                         [[0, 7], whole(7, {2: 8, 3: 3, 4: 7, 5: 1, 6: 3, 7: 7, 8: 1}, [])])

    def test_links_between_copies_of_several(self):
        made = [state(1), state(1), state(0), link(0, 2, 1), link(0, 1, 3), link(0, 3, 1), link(1, 2, 3), link(1, 3, 2),
                link(0, 2, 2), so(2)]
        old = {(0, 2, 1), (0, 1, 3), (0, 3, 1), (1, 2, 3), (1, 3, 2), (0, 2, 2)}
        self.told_behind(made, [whisper(0, "0"), model()],
                         [[0, 5], whole(5, {1: 1, 2: 1, 3: 0, 4: 1, 5: 1}, old | {(0, 5, 4), (0, 5, 5), (1, 5, 3)})])

    def test_what_holds_everywhere(self):
        links = COIN_LINKS | {(0, 3, 3), (0, 3, 4), (0, 4, 3), (0, 4, 4), (1, 3, 1), (1, 3, 2), (1, 4, 1), (1, 4, 2)}
        self.told_behind(COIN, [whisper(0, "T"), model()], [[0, 3], whole(3, {1: 1, 2: 0, 3: 1, 4: 0}, links)])

    def test_twice(self):
        """Copies are copied too, and numbers go on."""
        self.told_behind(COIN, [whisper(0, "0"), whisper(1, "0"), holds("T"), truth("(Ka0&Kb0)"), truth("KbKa0"),
                                state(9)], [[0, 3], [0, 5], [0, 1, 2, 3, 4, 5], [0, 1], [0, 0], [0, 6]])

    def test_what_speaks_of_knowing(self):
        self.told_behind(COIN, [whisper(1, "~Ka0"), whisper(0, "(0&~Kb0)"), truth("Ka0"), truth("Kb0")],
                         [[0, 3], [0, 6], [0, 1], [0, 0]])

    def test_a_deceived_agent_may_take_none_for_possible(self):
        made = [state(1), state(0), link(0, 1, 2), so(1)]
        self.told_behind(made, [whisper(0, "0"), model(), truth("Ka~T"), minds("T")],
                         [[0, 3], whole(3, {1: 1, 2: 0, 3: 1}, [(0, 1, 2)]), [0, 1], [0, 3, 3, 3, 3]])

    def test_numbers_behind_an_undo_are_not_given_again(self):
        self.told_behind(COIN, [whisper(0, "0"), undo(), whisper(0, "T"), undo(), state(0)],
                         [[0, 3], [0], [0, 4], [0], [0, 6]])

    def test_mixed_with_tell(self):
        self.told_behind(COIN, [whisper(0, "0"), tell("Ka0"), model(), whisper(1, "Ka0"), holds("T")],
                         [[0, 3], [0, 1], whole(3, {3: 1}, [(0, 3, 3)]), [0, 4], [0, 3, 4]])


class Room(Case):
    def test_sixteen_states_and_no_more(self):
        eight = [state(1)] * 8 + [so(2)]
        self.told_behind(eight, [whisper(0, "0"), holds("T"), state(0)], [[0, 10], [0] + list(range(1, 17)), [-3]])
        nine = [state(1)] * 8 + [state(0), so(2)]
        self.told_behind(nine, [whisper(0, "0"), holds("T"), state(0)], [[-3], [0] + list(range(1, 10)), [0, 10]])
        self.told_behind([state(1)] + [state(0)] * 15 + [so(1)], [whisper(0, "0")], [[-3]])
        self.told_behind([state(1)] + [state(0)] * 14 + [so(1)], [whisper(0, "0")], [[0, 16]])

    def test_two_hundred_links_and_no_more(self):
        """Seven states get a copy, with as many links; the eighth is not copied, and its link is one more."""
        made = [state(1)] * 7 + [state(0)] + dense(7, 100) + [so(7)]
        self.told_behind(made, [whisper(0, "0"), link(0, 1, 1)], [[0, 15], [-3]])
        more = made + [link(1, 8, 8)]
        before = behind(more, [model()])[0]
        self.told_behind(more, [whisper(0, "0"), model(), state(0)], [[-3], before, [0, 9]])

    def test_links_that_are_not_copied_take_no_room(self):
        """The agent's own links to a state without a copy."""
        made = [state(1)] * 7 + [state(0)] + dense(7, 96) + [so(7)]
        made += [link(0, number, 8) for number in range(1, 8)] + [link(0, 8, 8)]
        self.told_behind(made, [whisper(0, "0"), link(0, 9, 9), undo()], [[0, 15], [-3], [0]])

    def test_refused_for_want_of_room_changes_nothing_of_undo(self):
        made = [state(1)] * 9 + [so(2)]
        self.told_behind(made, [whisper(0, "0"), undo()], [[-3], [-12]])
        self.told_behind(made, [tell("T"), whisper(0, "0"), undo(), undo()], [[0, 9], [-3], [0], [-12]])


class Refused(Case):
    def test_no_such_agent(self):
        for agent in (LEAST, -1, 4, GREATEST):
            self.told_behind(COIN, [whisper(agent, "0")], [[-1]])
        for agent in range(4):
            self.told_behind(COIN, [whisper(agent, "0")], [[0, 3]])

    def test_what_is_told_first(self):
        full = [state(1)] * 16
        for made in (full, full + [so(1)], COIN):
            self.told_behind(made, [whisper(4, "8"), whisper(-1, DEEP), whisper(4, ""), whisper(0, ""), whisper(0, "8"),
                                    whisper(0, DEEP)], [[-1], [-1], [-1], [-1], [-1], [-2]])
        self.told_behind(full, [whisper(0, "0"), whisper(0, "1"), whisper(0, "~0")], [[-7], [-7], [-7]])
        self.told_behind(full + [so(1)], [whisper(0, "0"), whisper(0, "1"), whisper(0, "~0")], [[-3], [-10], [-10]])

    def test_does_not_hold(self):
        self.told_behind(COIN, [whisper(0, "~0"), whisper(0, "Ka0"), whisper(0, "~T")], [[-10]] * 3)

    def test_none_is_so(self):
        self.told_behind([], [whisper(0, "T")], [[-7]])
        self.told_behind(COIN, [drop(1), whisper(0, "T")], [[0], [-7]])

    def test_refused_changes_nothing(self):
        before = behind(COIN, [tell("T"), model(), undo(), model(), state(0)])
        for refused in (whisper(4, "0"), whisper(0, "("), whisper(0, DEEP), whisper(0, "~0")):
            found = behind(COIN, [tell("T"), refused, model(), undo(), refused, model(), state(0)])
            self.assertEqual(len(found[1]), 1)
            self.assertEqual([found[place] for place in (0, 2, 3, 5, 6)], before)


class PromiseFour(Case):
    def test_nobody_elses_mind_is_changed(self):
        """What the others know, of atoms and of anything else, and what is so, is as it was."""
        maker = Maker(21)
        whispered = learned = 0
        for each in range(250):
            masks, links, made = maker.model(6, 24, 3)
            agent = maker.random.randrange(4)
            told = maker.formula(3, "T012~&|K")
            atoms = [maker.formula(3, "T012~&|") for count in range(4)]
            others = ["K" + name + maker.formula(3) for name in "abcd" if name != "abcd"[agent] for count in range(3)]
            others += ["K" + name + formula for name in "abcd" if name != "abcd"[agent] for formula in atoms]
            asked = [truth(formula) for formula in atoms + others] + [minds(formula) for formula in atoms]
            found = ask(made + [so(3)] + asked + [whisper(agent, told)] + asked)[len(made) + 1:]
            if found[len(asked)][0] == 0:
                whispered += 1
                before, after = found[:len(asked)], found[len(asked) + 1:]
                self.assertEqual(before[:-4], after[:-4])
                for old, new in zip(before[-4:], after[-4:]):
                    self.assertEqual([number for place, number in enumerate(old) if place != agent + 1],
                                     [number for place, number in enumerate(new) if place != agent + 1])
                learned += before[-4:] != after[-4:]
        self.assertGreater(whispered, 60)
        self.assertGreater(learned, 10)

    def test_whispered_of_atoms_alone_it_is_known(self):
        maker = Maker(22)
        whispered = 0
        for each in range(150):
            made = maker.model(6, 24, 3)[2]
            formula = maker.formula(4, "T012~&|")
            name = maker.random.choice("abcd")
            found = behind(made, [so(1), whisper("abcd".index(name), formula), truth("K" + name + formula)])
            if found[1] != [-10]:
                self.assertEqual(found[2], [0, 1])
                whispered += 1
        self.assertGreater(whispered, 40)

    def test_many(self):
        """The model is as the document's words, done plainly, make it."""
        maker = Maker(23)
        seen = {0: 0, -3: 0, -10: 0}
        for each in range(300):
            masks, links, made = maker.model(maker.random.randint(1, 11), maker.random.randint(0, 130))
            calls = made + [so(1), whisper(maker.random.randrange(4), maker.formula(3)), model()]
            plain = Plain()
            expected = [plain.answer(call) for call in calls]
            self.assertEqual(ask(calls), expected)
            seen[expected[-2][0]] += 1
        self.assertGreater(min(seen.values()), 20)
