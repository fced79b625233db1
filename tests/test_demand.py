"""Promise 1: demand."""

import unittest

from tests.helper import BIG, CHECK, DEMAND, KEEP, MESSAGE, PUT, ask, desk_after, last, snapshot

TEN = (MESSAGE, 10, 2, 0, 8, 1)
TEN_OTHER_BUS = (MESSAGE, 10, 2, 0, 8, 2)
SIX_OTHER_BUS = (MESSAGE, 6, 1, 0, 5, 2)
UNLIKE = (TEN, SIX_OTHER_BUS)
ALIKE = (TEN, TEN_OTHER_BUS)


def wrong_at(setup, x, y):
    """What check says with the first two messages put at x and y."""
    return last(*setup, (PUT, 0, x), (PUT, 1, y), (CHECK,))


class DemandTest(unittest.TestCase):
    def test_numbers_go_up_from_zero(self):
        rows = ask(*ALIKE, (DEMAND, 0, 0, 1, 0), (DEMAND, 1, 1, 0, 3), (DEMAND, 0, 0, 1, 0))
        self.assertEqual(rows[2:], [[0], [1], [2]])

    def test_what_is_told_is_what_is_held(self):
        desk = desk_after(*ALIKE, (DEMAND, 1, 1, 0, 3), (DEMAND, 0, 0, 1, 64))
        self.assertEqual(snapshot(desk)[1], [(1, 1, 0, 3), (0, 0, 1, 64)])

    def test_table_and_kept_table_stay(self):
        desk = desk_after(*ALIKE, (PUT, 0, 4), (KEEP,), (DEMAND, 0, 0, 1, 64))
        self.assertEqual(desk.table, [4, -1])
        self.assertEqual(desk.kept, [4, -1])

    def test_ends_of_each_range_are_in(self):
        for kind in (0, 1):
            for gap in (0, 64):
                with self.subTest(kind=kind, gap=gap):
                    self.assertEqual(last(*ALIKE, (DEMAND, kind, 0, 1, gap)), [0])

    def test_out_of_range(self):
        for kind in (-1, 2, BIG, -BIG):
            with self.subTest(kind=kind):
                self.assertEqual(last(*ALIKE, (DEMAND, kind, 0, 1, 0)), [-1])
        for gap in (-1, 65, BIG, -BIG):
            with self.subTest(gap=gap):
                self.assertEqual(last(*ALIKE, (DEMAND, 1, 0, 1, gap)), [-1])

    def test_no_such_message(self):
        for a, b in ((2, 0), (0, 2), (-1, 0), (0, -1), (BIG, 0), (0, -BIG), (2, 2), (-1, -1)):
            with self.subTest(a=a, b=b):
                self.assertEqual(last(*ALIKE, (DEMAND, 1, a, b, 0)), [-4])
        self.assertEqual(last((DEMAND, 1, 0, 1, 0)), [-4])

    def test_a_message_and_itself(self):
        self.assertEqual(last(*ALIKE, (DEMAND, 0, 1, 1, 0)), [-5])
        self.assertEqual(last(*ALIKE, (DEMAND, 1, 0, 0, 0)), [-5])

    def test_unlike_periods(self):
        self.assertEqual(last(*UNLIKE, (DEMAND, 0, 0, 1, 0)), [-9])
        self.assertEqual(last(*UNLIKE, (DEMAND, 1, 0, 1, 0)), [0])

    def test_sixteen_at_most(self):
        rows = ask(*ALIKE, *[(DEMAND, 1, 0, 1, 0)] * 18)
        self.assertEqual(rows[2:], [[number] for number in range(16)] + [[-8], [-8]])

    def test_first_refusal_in_order(self):
        full = UNLIKE + ((DEMAND, 1, 0, 1, 0),) * 16
        for call, refusal in (
            ((DEMAND, 2, 7, 7, 0), -1),
            ((DEMAND, 0, 7, 7, 65), -1),
            ((DEMAND, 0, 7, 7, 0), -4),
            ((DEMAND, 0, 1, 7, 0), -4),
            ((DEMAND, 0, 1, 1, 0), -5),
            ((DEMAND, 0, 1, 0, 0), -9),
            ((DEMAND, 1, 1, 0, 0), -8),
        ):
            with self.subTest(call=call):
                self.assertEqual(last(*full, call), [refusal])

    def test_refusal_changes_nothing(self):
        full = UNLIKE + ((DEMAND, 1, 0, 1, 0),) * 16 + ((PUT, 0, 1), (KEEP,))
        held = snapshot(desk_after(*full))
        for call in (
            (DEMAND, 2, 0, 1, 0),
            (DEMAND, 1, 0, 2, 0),
            (DEMAND, 1, 0, 0, 0),
            (DEMAND, 0, 0, 1, 0),
            (DEMAND, 1, 0, 1, 0),
        ):
            with self.subTest(call=call):
                self.assertEqual(snapshot(desk_after(*full, call)), held)
        few = UNLIKE
        held = snapshot(desk_after(*few))
        self.assertEqual(snapshot(desk_after(*few, (DEMAND, 0, 0, 1, 0))), held)


class KindTest(unittest.TestCase):
    def test_kind_0_is_met_just_from_its_end_and_gap_on(self):
        setup = ALIKE + ((DEMAND, 0, 0, 1, 3),)
        self.assertEqual(wrong_at(setup, 1, 6), [0])
        self.assertEqual(wrong_at(setup, 1, 5), [1, 3, 0, 0])
        self.assertEqual(wrong_at(setup, 1, 8), [0])

    def test_kind_0_does_not_go_round(self):
        setup = ALIKE + ((DEMAND, 0, 0, 1, 0),)
        self.assertEqual(wrong_at(setup, 8, 2), [1, 3, 0, 0])

    def test_kind_0_has_a_direction(self):
        self.assertEqual(wrong_at(ALIKE + ((DEMAND, 0, 1, 0, 0),), 0, 2), [1, 3, 0, 0])
        self.assertEqual(wrong_at(ALIKE + ((DEMAND, 0, 1, 0, 0),), 2, 0), [0])

    def test_kind_1_goes_round_on_both_sides(self):
        setup = ALIKE + ((DEMAND, 1, 0, 1, 3),)
        self.assertEqual(wrong_at(setup, 0, 5), [0])
        self.assertEqual(wrong_at(setup, 0, 4), [1, 3, 0, 0])
        self.assertEqual(wrong_at(setup, 0, 6), [1, 3, 0, 0])
        self.assertEqual(wrong_at(setup, 7, 2), [0])
        self.assertEqual(wrong_at(setup, 7, 1), [1, 3, 0, 0])

    def test_kind_1_with_no_gap_is_for_whatever_buses(self):
        setup = ALIKE + ((DEMAND, 1, 0, 1, 0),)
        self.assertEqual(wrong_at(setup, 0, 2), [0])
        self.assertEqual(wrong_at(setup, 0, 8), [0])
        self.assertEqual(wrong_at(setup, 0, 1), [1, 3, 0, 0])
        self.assertEqual(wrong_at(setup, 3, 3), [1, 3, 0, 0])

    def test_kind_1_with_unlike_periods(self):
        setup = ((MESSAGE, 12, 1, 0, 11, 1), (MESSAGE, 8, 2, 0, 6, 2), (DEMAND, 1, 0, 1, 0))
        self.assertEqual(wrong_at(setup, 0, 1), [0])
        self.assertEqual(wrong_at(setup, 0, 2), [0])
        self.assertEqual(wrong_at(setup, 0, 3), [1, 3, 0, 0])
        self.assertEqual(wrong_at(setup, 0, 4), [1, 3, 0, 0])
        self.assertEqual(wrong_at(setup, 11, 0), [0])

    def test_kind_1_with_no_common_divisor_is_never_met(self):
        setup = ((MESSAGE, 7, 1, 0, 6, 1), (MESSAGE, 8, 1, 0, 7, 2), (DEMAND, 1, 0, 1, 0))
        for y in range(8):
            self.assertEqual(wrong_at(setup, 0, y), [1, 3, 0, 0])

    def test_met_if_one_is_not_put(self):
        for kind in (0, 1):
            setup = ALIKE + ((DEMAND, kind, 0, 1, 64),)
            self.assertEqual(last(*setup, (PUT, 0, 0), (CHECK,)), [1, 1, 1, 1])
            self.assertEqual(last(*setup, (PUT, 1, 0), (CHECK,)), [1, 1, 0, 0])
            self.assertEqual(last(*setup, (CHECK,)), [2, 1, 0, 0, 1, 1, 1])
