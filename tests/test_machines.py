"""[4] machines and states, [6] how a machine is refused, [7] how it works on a letter."""

import unittest

from cutrestore.errors import BadDeed, BadMachine
from cutrestore.machines import Machine
from things import WRONG_THINGS, copied, counter

SAY = ("say", ("letter",))
SIXTY = 10 ** 60 - 1


class MadeTest(unittest.TestCase):
    def refused(self, modulus, numbers, row, deeds):
        with self.assertRaises(BadMachine):
            Machine(modulus, numbers, row, deeds)

    def test_what_it_tells(self):
        machine = Machine(7, [1, 0], (3,), [SAY, ("drop",)])
        self.assertEqual(machine.modulus(), 7)
        self.assertEqual(machine.first_state(), ((1, 0), (3,)))
        self.assertEqual(machine.deeds(), [SAY, ("drop",)])

    def test_kinds_that_are_told(self):
        machine = Machine(7, [1, 0], [], (SAY,))
        state = machine.first_state()
        self.assertEqual([type(part) for part in (state, state[0], state[1])], [tuple, tuple, tuple])
        self.assertIsInstance(machine.deeds(), list)

    def test_modulus(self):
        for modulus in (2, 3, 10 ** 12 - 1, 10 ** 12):
            self.assertEqual(Machine(modulus, [0], [], []).modulus(), modulus)
        for modulus in (-7, -1, 0, 1, 10 ** 12 + 1, SIXTY):
            self.refused(modulus, [0], [], [])
        for thing in (None, True, False, "7", b"7", [7], (7,), {}):
            self.refused(thing, [0], [], [])

    def test_how_many_numbers(self):
        for many in (1, 2, 3, 4):
            self.assertEqual(Machine(7, [5] * many, [], []).first_state(), ((5,) * many, ()))
        for many in (0, 5, 6):
            self.refused(7, [0] * many, [], [])
            self.refused(7, (0,) * many, [], [])

    def test_how_long_the_row_is(self):
        for many in (0, 1, 11, 12):
            self.assertEqual(Machine(7, [0], [5] * many, []).first_state(), ((0,), (5,) * many))
        for many in (13, 14):
            self.refused(7, [0], [0] * many, [])
            self.refused(7, [0], (0,) * many, [])

    def test_how_great_the_numbers_are(self):
        for modulus in (2, 7, 10 ** 12):
            top = modulus - 1
            self.assertEqual(Machine(modulus, [0, top], [top, 0], []).first_state(), ((0, top), (top, 0)))
            for number in (modulus, modulus + 1, -1, -SIXTY, SIXTY):
                self.refused(modulus, [number], [], [])
                self.refused(modulus, [0, 0, number], [], [])
                self.refused(modulus, [0], [number], [])
                self.refused(modulus, [0], [0, 0, number], [])

    def test_what_is_no_number(self):
        for thing in (None, True, False, "0", b"0", (), [], (0,), [0], {}, ("is", 0)):
            self.refused(7, [thing], [], [])
            self.refused(7, [0, thing], [], [])
            self.refused(7, [0], [thing], [])

    def test_what_is_no_list(self):
        for thing in (None, True, False, 0, 1, "", "0", b"", b"0", {}, {0: 1}, {0}, set(), range(1), object()):
            self.refused(7, thing, [], [])
            self.refused(7, [0], thing, [])
            self.refused(7, [0], [], thing)

    def test_how_many_deeds(self):
        self.assertEqual(Machine(7, [0], [], []).deeds(), [])
        self.assertEqual(Machine(7, [0], [], [SAY] * 24).deeds(), [SAY] * 24)
        self.assertEqual(self.at_of([SAY] * 25), 24)
        self.assertEqual(self.at_of((SAY,) * 40), 24)

    def test_the_first_deed_that_is_none(self):
        for at in (0, 1, 12, 23, 24):
            for behind in ([], [SAY], [None], [SAY] * 30):
                self.assertEqual(self.at_of([SAY] * at + [("drop", 1)] + behind), at)
        for at in (25, 26, 30):
            self.assertEqual(self.at_of([SAY] * at + [None]), 24)

    def test_anything_is_no_deed(self):
        for thing in WRONG_THINGS:
            with self.subTest(repr(thing)):
                self.assertEqual(self.at_of([SAY, thing]), 1)

    def test_deeds_go_by_how_many_numbers_there_are(self):
        for many in (1, 2, 3, 4):
            last = ("set", many - 1, ("number", many - 1))
            self.assertEqual(Machine(7, [0] * many, [], [last]).deeds(), [last])
            for beyond in (("set", many, ("is", 0)), ("say", ("number", many))):
                with self.assertRaises(BadDeed) as told:
                    Machine(7, [0] * many, [], [last, beyond])
                self.assertEqual(told.exception.at, 1)

    def test_bad_machine_comes_ahead_of_bad_deed(self):
        self.refused(1, [0], [], [None])
        self.refused(7, [], [], [None])
        self.refused(7, [7], [], [SAY] * 25)
        self.refused(7, [0], [0] * 13, [None])
        self.refused(7, [0], None, [None])

    def at_of(self, deeds):
        with self.assertRaises(BadDeed) as told:
            Machine(7, [0, 1], [], deeds)
        return told.exception.at


class WorkedTest(unittest.TestCase):
    def worked(self, deeds, state=((3, 5), (4, 2)), way=0, said=6, modulus=7):
        return Machine(modulus, state[0], state[1], deeds).worked(state, way, said)

    def test_without_deeds(self):
        self.assertEqual(self.worked([]), (((3, 5), (4, 2)), [], []))

    def test_set(self):
        self.assertEqual(self.worked([("set", 1, ("letter",))]), (((3, 6), (4, 2)), [], []))
        self.assertEqual(self.worked([("set", 0, ("is", -1))]), (((6, 5), (4, 2)), [], []))

    def test_add(self):
        self.assertEqual(self.worked([("add", 0, ("letter",))]), (((2, 5), (4, 2)), [], []))
        self.assertEqual(self.worked([("add", 1, ("is", 1))]), (((3, 6), (4, 2)), [], []))
        self.assertEqual(self.worked([("add", 1, ("is", 2))]), (((3, 0), (4, 2)), [], []))

    def test_times(self):
        self.assertEqual(self.worked([("times", 0, ("number", 1))]), (((1, 5), (4, 2)), [], []))
        self.assertEqual(self.worked([("times", 1, ("is", 0))]), (((3, 0), (4, 2)), [], []))
        self.assertEqual(self.worked([("times", 1, ("is", -1))]), (((3, 2), (4, 2)), [], []))

    def test_great_products(self):
        top = 10 ** 12 - 1
        deeds = [("times", 0, ("number", 0)), ("add", 1, ("letter",))]
        told = self.worked(deeds, ((top, top), ()), 0, SIXTY, 10 ** 12)
        self.assertEqual(told, (((1, 10 ** 12 - 2), ()), [], []))

    def test_put(self):
        self.assertEqual(self.worked([("put", ("is", 8))]), (((3, 5), (4, 2, 1)), [], []))
        self.assertEqual(self.worked([("put", ("is", 8))], ((3,), ())), (((3,), (1,)), [], []))

    def test_a_full_row_stays(self):
        eleven, twelve = (5,) * 11, (5,) * 12
        put = ("put", ("is", 1))
        self.assertEqual(self.worked([put], ((0,), eleven)), (((0,), eleven + (1,)), [], []))
        self.assertEqual(self.worked([put], ((0,), twelve)), (((0,), twelve), [], []))
        self.assertEqual(self.worked([put, put], ((0,), eleven)), (((0,), eleven + (1,)), [], []))
        self.assertEqual(self.worked([put, ("drop",), put], ((0,), twelve)), (((0,), eleven + (1,)), [], []))

    def test_drop(self):
        self.assertEqual(self.worked([("drop",)]), (((3, 5), (2,)), [], []))
        self.assertEqual(self.worked([("drop",)] * 2), (((3, 5), ()), [], []))
        self.assertEqual(self.worked([("drop",)] * 3), (((3, 5), ()), [], []))
        self.assertEqual(self.worked([("drop",)], ((1,), ())), (((1,), ()), [], []))

    def test_send_by_any_way_out(self):
        deeds = [("send", j, ("is", j)) for j in (2, 0, 10, 1, 10 ** 59, 0)]
        told = self.worked(deeds)
        self.assertEqual(told[0], ((3, 5), (4, 2)))
        self.assertEqual(told[1], [(2, 2), (0, 0), (10, 3), (1, 1), (10 ** 59, 10 ** 59 % 7), (0, 0)])
        self.assertEqual(told[2], [])

    def test_say(self):
        deeds = [("say", value) for value in [("is", -1), ("number", 1), ("letter",), ("way",), ("first",)]]
        self.assertEqual(self.worked(deeds, way=2), (((3, 5), (4, 2)), [], [6, 5, 6, 2, 4]))

    def test_skip_where_it_is_less(self):
        deeds = [("skip", ("is", 1), ("is", 2), 2)] + [("say", ("is", word)) for word in (1, 2, 3)]
        self.assertEqual(self.worked(deeds)[2], [3])

    def test_skip_where_it_is_not(self):
        says = [("say", ("is", word)) for word in (1, 2, 3)]
        for values in [(("is", 2), ("is", 2)), (("is", 3), ("is", 2)), (("is", -1), ("is", 1)), (("is", 1), ("is", 7))]:
            self.assertEqual(self.worked([("skip",) + values + (2,)] + says)[2], [1, 2, 3])

    def test_skip_more_than_there_are(self):
        for many in (2, 3, 24):
            deeds = [("say", ("is", 1)), ("skip", ("is", 0), ("is", 1), many), ("say", ("is", 2)), ("drop",)]
            self.assertEqual(self.worked(deeds), (((3, 5), (4, 2)), [], [1]))
        self.assertEqual(self.worked([("skip", ("is", 0), ("is", 1), 1)]), (((3, 5), (4, 2)), [], []))

    def test_a_skip_may_be_left_out(self):
        skip = ("skip", ("is", 0), ("is", 1), 1)
        self.assertEqual(self.worked([skip, skip, SAY])[2], [6])

    def test_each_deed_sees_what_those_ahead_did(self):
        deeds = [
            ("set", 0, ("letter",)), ("add", 0, ("first",)), ("send", 1, ("number", 0)), ("put", ("number", 0)),
            ("drop",), ("say", ("first",)), ("times", 1, ("number", 0)), ("drop",), ("say", ("first",)),
            ("skip", ("number", 0), ("number", 1), 1), ("drop",), ("say", ("first",)), ("send", 0, ("number", 1)),
        ]
        self.assertEqual(self.worked(deeds, said=-1), (((3, 1), ()), [(1, 3), (0, 1)], [2, 3, 0]))

    def test_the_document_s_machine(self):
        deeds = [
            ("add", 0, ("letter",)), ("skip", ("number", 0), ("is", 3), 1), ("send", 0, ("number", 0)),
            ("say", ("first",)),
        ]
        machine = Machine(7, [1, 0], [], deeds)
        self.assertEqual(machine.worked(machine.first_state(), 0, 1), (((2, 0), ()), [], [0]))
        self.assertEqual(machine.worked(machine.first_state(), 0, 2), (((3, 0), ()), [(0, 3)], [0]))

    def test_a_letter_of_sixty_figures(self):
        self.assertEqual(self.worked([SAY], said=-SIXTY)[2], [-SIXTY % 7])

    def test_kinds_that_are_told(self):
        told = self.worked([("send", 0, ("is", 1)), SAY, ("put", ("is", 1))])
        self.assertEqual([type(part) for part in told], [tuple, list, list])
        self.assertEqual([type(part) for part in told[0]], [tuple, tuple])
        self.assertEqual([type(part) for part in told[1]], [tuple])

    def test_any_state_may_be_handed_in(self):
        machine = Machine(7, [1], [], [("add", 0, ("first",)), ("drop",)])
        self.assertEqual(machine.worked(((5,), (3, 4)), 0, 0), (((1,), (4,)), [], []))
        self.assertEqual(machine.first_state(), ((1,), ()))


class NothingKeptTest(unittest.TestCase):
    def test_what_is_handed_in_stays(self):
        handed = [[1, 0], [3], [("set", 0, ("is", 2)), ("put", ("is", 1)), ("drop",)]]
        before = copied(handed)
        machine = Machine(7, handed[0], handed[1], handed[2])
        state = ((1, 0), (3,))
        machine.worked(state, 0, 1)
        self.assertEqual(handed, before)
        self.assertEqual(state, ((1, 0), (3,)))

    def test_lists_handed_in_may_be_changed(self):
        numbers, row, deeds = [1, 0], [3], [SAY]
        machine = Machine(7, numbers, row, deeds)
        numbers.append(5)
        row.clear()
        deeds[0] = None
        self.assertEqual(machine.first_state(), ((1, 0), (3,)))
        self.assertEqual(machine.deeds(), [SAY])
        self.assertEqual(machine.worked(machine.first_state(), 0, 2), (((1, 0), (3,)), [], [2]))

    def test_lists_told_may_be_changed(self):
        machine = counter()
        machine.deeds().clear()
        told = machine.worked(((1,), ()), 0, 1)
        told[1].append("more")
        told[2].clear()
        self.assertEqual(machine.worked(((1,), ()), 0, 1), (((2,), ()), [(0, 2)], [2]))
        self.assertEqual(len(machine.deeds()), 3)

    def test_one_machine_s_work_changes_nothing_of_another(self):
        deeds = [("add", 0, ("letter",)), ("put", ("letter",)), ("say", ("first",))]
        row = [2]
        one, other = Machine(7, [1], row, deeds), Machine(7, [1], row, deeds)
        before = other.worked(other.first_state(), 0, 3)
        for said in range(20):
            one.worked(one.first_state(), 0, said)
        self.assertEqual(other.worked(other.first_state(), 0, 3), before)
        self.assertEqual(one.first_state(), ((1,), (2,)))
        self.assertEqual(one.worked(one.first_state(), 0, 3), before)


if __name__ == "__main__":
    unittest.main()
