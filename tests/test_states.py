"""The calls state, link, unlink, drop and so."""

from tests.helper import GREATEST, LEAST, Case, ask, drop, holds, last, link, so, state, tell, truth, unlink

FAR = (LEAST, -1, 0, 3, 4, GREATEST)


def many_links(count):
    """Calls that make 16 states and so many links."""
    found = [(agent, start, end) for agent in range(4) for start in range(1, 17) for end in range(1, 17)]
    return [state(0)] * 16 + [link(*each) for each in found[:count]]


class States(Case):
    def test_numbers_come_in_order(self):
        self.told([state(0), state(255), state(0)], [[0, 1], [0, 2], [0, 3]])

    def test_masks_at_the_edges(self):
        self.told([state(-1), state(0), state(255), state(256)], [[-1], [0, 1], [0, 2], [-1]])
        self.told([state(LEAST), state(GREATEST), state(7)], [[-1], [-1], [0, 1]])

    def test_mask_tells_which_atoms_are_so(self):
        for atom in range(8):
            calls = [state(2 ** atom), state(255 - 2 ** atom), holds(str(atom)), holds("~" + str(atom))]
            self.assertEqual(ask(calls)[2:], [[0, 1], [0, 2]])

    def test_sixteen_states_and_no_more(self):
        found = ask([state(0)] * 18 + [holds("T")])
        self.assertEqual(found[:16], [[0, number] for number in range(1, 17)])
        self.assertEqual(found[16:18], [[-3], [-3]])
        self.assertEqual(found[18], [0] + list(range(1, 17)))

    def test_wrong_mask_is_told_ahead_of_no_room(self):
        self.told_last([state(0)] * 16 + [state(256)], [-1])
        self.told_last([state(0)] * 16 + [state(-1)], [-1])

    def test_refused_state_takes_no_number(self):
        self.told_last([state(0), state(300), state(0)], [0, 2])
        self.told_last([state(0)] * 17 + [drop(3), state(0)], [0, 17])

    def test_numbers_are_never_given_twice(self):
        self.told([state(0), state(1), drop(2), state(2), drop(1), drop(3), state(3), holds("T")],
                  [[0, 1], [0, 2], [0], [0, 3], [0], [0], [0, 4], [0, 4]])

    def test_numbers_are_not_given_again_behind_a_tell(self):
        self.told_last([state(1), state(0), so(1), tell("0"), state(0)], [0, 3])

    def test_room_is_made_by_a_drop(self):
        self.told_last([state(0)] * 16 + [drop(5), state(1), state(0)], [-3])
        self.told_last([state(0)] * 16 + [drop(5), state(1), holds("0")], [0, 17])


class Links(Case):
    def test_link_is_there(self):
        calls = [state(0), state(1), link(0, 1, 2), holds("Ka0"), holds("Ka~0"), holds("Kb~T")]
        self.assertEqual(ask(calls)[2:], [[0], [0, 1, 2], [0, 2], [0, 1, 2]])

    def test_link_of_a_state_to_itself(self):
        self.told_last([state(0), link(3, 1, 1), holds("Kd0")], [0])

    def test_agents_at_the_edges(self):
        made = [state(0)]
        for agent in (LEAST, -1, 4, GREATEST):
            self.told_last(made + [link(agent, 1, 1)], [-1])
        for agent in range(4):
            self.told_last(made + [link(agent, 1, 1)], [0])

    def test_no_such_state(self):
        for number in (LEAST, -1, 0, 2, GREATEST):
            self.told_last([state(0), link(0, number, 1)], [-4])
            self.told_last([state(0), link(0, 1, number)], [-4])
        self.told_last([link(0, 1, 1)], [-4])
        self.told_last([state(0), state(0), drop(1), link(0, 1, 2)], [-4])

    def test_link_that_is_there_already(self):
        self.told([state(0), state(0), link(0, 1, 2), link(0, 1, 2), link(0, 2, 1), link(1, 1, 2)],
                  [[0, 1], [0, 2], [0], [-5], [0], [0]])

    def test_wrong_agent_is_told_ahead_of_no_state(self):
        self.told_last([link(4, 1, 1)], [-1])

    def test_two_hundred_links_and_no_more(self):
        found = ask(many_links(201))
        self.assertEqual(found[16:216], [[0]] * 200)
        self.assertEqual(found[216], [-3])

    def test_what_is_told_ahead_of_no_room_for_a_link(self):
        full = many_links(200)
        self.told_last(full + [link(0, 1, 1)], [-5])
        self.told_last(full + [link(0, 1, 17)], [-4])
        self.told_last(full + [link(4, 1, 17)], [-1])
        self.told_last(full + [link(3, 16, 16)], [-3])

    def test_room_is_made_by_unlink_and_by_drop(self):
        full = many_links(200)
        self.told_last(full + [unlink(0, 1, 1), link(3, 16, 16)], [0])
        self.told_last(full + [unlink(0, 1, 1), link(3, 16, 16), link(3, 16, 15)], [-3])
        self.told_last(full + [drop(1), link(3, 16, 16)], [0])

    def test_refused_link_is_not_there(self):
        self.told_last(many_links(200) + [link(3, 16, 16), unlink(3, 16, 16)], [-6])

    def test_unlink(self):
        calls = [state(0), state(0), link(0, 1, 2), unlink(0, 1, 2), holds("Ka~T"), unlink(0, 1, 2), link(0, 1, 2)]
        self.assertEqual(ask(calls)[2:], [[0], [0], [0, 1, 2], [-6], [0]])

    def test_unlink_takes_just_the_one(self):
        made = [state(0), state(0), link(0, 1, 2), link(0, 2, 1), link(1, 1, 2), unlink(0, 1, 2)]
        self.told_last(made + [holds("~Ka~T")], [0, 2])
        self.told_last(made + [holds("~Kb~T")], [0, 1])

    def test_unlink_of_what_names_nothing(self):
        made = [state(0), state(0), link(0, 1, 2)]
        for number in FAR:
            self.told_last(made + [unlink(number, 2, 2)], [-6])
            self.told_last(made + [unlink(0, number, 2)], [-6])
            self.told_last(made + [unlink(0, 1, number)], [-6])
        self.told_last([unlink(0, 1, 1)], [-6])


class Drops(Case):
    def test_state_is_gone(self):
        self.told([state(1), state(1), drop(1), holds("0"), drop(1), drop(2), holds("T")],
                  [[0, 1], [0, 2], [0], [0, 2], [-4], [0], [0]])

    def test_links_go_with_it(self):
        made = [state(0), state(0), state(0), link(0, 1, 2), link(1, 2, 3), link(2, 2, 2), link(3, 1, 3), drop(2)]
        self.told_last(made + [unlink(0, 1, 2)], [-6])
        self.told_last(made + [unlink(1, 2, 3)], [-6])
        self.told_last(made + [unlink(2, 2, 2)], [-6])
        self.told_last(made + [unlink(3, 1, 3)], [0])
        self.told_last(made + [holds("Ka~T")], [0, 1, 3])

    def test_drop_of_the_one_that_is_so(self):
        self.told([state(1), state(1), so(1), truth("0"), drop(1), truth("0"), tell("0")],
                  [[0, 1], [0, 2], [0], [0, 1], [0], [-7], [-7]])

    def test_drop_of_another_one(self):
        self.told_last([state(1), state(1), so(1), drop(2), truth("0")], [0, 1])

    def test_no_such_state(self):
        for number in (LEAST, -1, 0, 2, GREATEST):
            self.told_last([state(0), drop(number)], [-4])
            self.told_last([state(0), so(number)], [-4])


class So(Case):
    def test_so(self):
        self.told([state(1), state(0), so(1), truth("0"), so(2), truth("0"), so(2)],
                  [[0, 1], [0, 2], [0], [0, 1], [0], [0, 0], [0]])

    def test_refused_so_changes_nothing(self):
        self.told_last([state(1), state(0), so(1), so(3), truth("0")], [0, 1])

    def test_dropped_state_is_not_so_again(self):
        self.told_last([state(1), state(0), drop(1), so(1)], [-4])
        self.assertEqual(last([state(1), state(0), drop(1), so(1), truth("T")]), [-7])
