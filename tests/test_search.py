"""Promises 5, 6 and 7: search, count and blame."""

import unittest

from tests.helper import (
    BIG, BLAME, CHECK, COUNT, DEMAND, KEEP, MESSAGE, PUT, SEARCH, ask, desk_after, last, snapshot,
)

WIDE = (MESSAGE, 4, 1, 0, 3, 1)
ALWAYS_ON = (MESSAGE, 1, 1, 0, 0, 1)
BUDGET_ENDS = ((0, False), (1, True), (20000, True), (20001, False), (-1, False), (BIG, False), (-BIG, False))


class Budget:
    """For each of the calls: the ends of its range, and a budget just enough and one too small."""

    place = SEARCH

    def just_enough(self, setup, budget, answer):
        with self.subTest(setup=setup, budget=budget):
            self.assertEqual(last(*setup, (self.place, budget)), answer)
            self.assertEqual(last(*setup, (self.place, budget + 1)), answer)
            if budget > 1:
                self.assertEqual(last(*setup, (self.place, budget - 1)), [-10])

    def test_range(self):
        for budget, within in BUDGET_ENDS:
            with self.subTest(budget=budget):
                self.assertEqual(last((self.place, budget)) != [-1], within)
                self.assertEqual(last(WIDE, (self.place, budget)) != [-1], within)
                self.assertEqual(last(ALWAYS_ON, ALWAYS_ON, (self.place, budget)) != [-1], within)

    def test_refusal_changes_nothing(self):
        before = (WIDE, WIDE, (DEMAND, 1, 0, 1, 0), (PUT, 0, 3), (KEEP,), (PUT, 0, 2))
        held = snapshot(desk_after(*before))
        for budget in (0, 20001, 1):
            with self.subTest(budget=budget):
                self.assertLess(last(*before, (self.place, budget))[0], 0)
                self.assertEqual(snapshot(desk_after(*before, (self.place, budget))), held)


class SearchTest(Budget, unittest.TestCase):
    def test_no_messages(self):
        self.assertEqual(ask((SEARCH, 1), (CHECK,)), [[0], [0]])

    def test_one_message(self):
        self.just_enough([WIDE], 1, [1, 0])
        self.just_enough([(MESSAGE, 20, 2, 5, 9, 2)], 1, [1, 5])

    def test_the_first_table(self):
        self.just_enough([WIDE, WIDE], 3, [2, 0, 1])
        self.just_enough([WIDE, WIDE, WIDE], 6, [3, 0, 1, 2])

    def test_goes_back_for_a_demand(self):
        # 0: chosen, then 1 at 0 to 3 refused and 4 beyond; 1: chosen, then 1 at 0 chosen.
        self.just_enough([WIDE, WIDE, (DEMAND, 0, 1, 0, 0)], 8, [2, 1, 0])

    def test_demand_on_other_buses(self):
        other = (MESSAGE, 4, 1, 0, 3, 2)
        self.just_enough([WIDE, other], 2, [2, 0, 0])
        self.just_enough([WIDE, other, (DEMAND, 1, 1, 0, 1)], 4, [2, 0, 2])

    def test_beginnings_as_far_apart_as_may_be(self):
        low, high = (MESSAGE, 64, 1, 0, 0, 1), (MESSAGE, 64, 1, 63, 63, 1)
        self.just_enough([low, high], 2, [2, 0, 63])
        self.just_enough([high, low], 2, [2, 63, 0])
        self.just_enough([high, low, (DEMAND, 0, 1, 0, 62)], 2, [2, 63, 0])
        self.just_enough([low, high, (DEMAND, 0, 0, 1, 63)], 4, [-6])
        self.just_enough([high, low, (DEMAND, 0, 1, 0, 63)], 4, [-6])
        self.just_enough([high, low, (DEMAND, 1, 1, 0, 1)], 4, [-6])

    def test_none(self):
        # chosen, refused, beyond, and beyond again for message 0.
        self.just_enough([ALWAYS_ON, ALWAYS_ON], 4, [-6])

    def test_eight_messages(self):
        eight = [(MESSAGE, 8, 1, 0, 7, 3)] * 8
        self.just_enough(eight, 36, [8, 0, 1, 2, 3, 4, 5, 6, 7])

    def test_sixteen_demands(self):
        eight = [(MESSAGE, 16, 1, 0, 15, 3)] * 8
        row = [(DEMAND, 0, m, m + 1, 1) for m in range(7)]
        more = [(DEMAND, 1, m, m + 1, 1) for m in range(7)] + [(DEMAND, 1, 0, 7, 1), (DEMAND, 0, 0, 7, 13)]
        self.just_enough(eight + row + more, 64, [8, 0, 2, 4, 6, 8, 10, 12, 14])

    def test_table_found_is_the_table(self):
        rows = ask(WIDE, WIDE, (PUT, 0, 3), (PUT, 1, 3), (SEARCH, 3), (CHECK,))
        self.assertEqual(rows[-2:], [[2, 0, 1], [0]])
        desk = desk_after(WIDE, WIDE, (PUT, 0, 3), (KEEP,), (SEARCH, 3))
        self.assertEqual((desk.table, desk.kept), ([0, 1], [3, -1]))

    def test_table_found_can_be_changed(self):
        rows = ask(WIDE, (SEARCH, 5), (PUT, 0, 2), (SEARCH, 5))
        self.assertEqual(rows[1:], [[1, 0], [0], [1, 0]])

    def test_none_changes_nothing(self):
        before = (ALWAYS_ON, ALWAYS_ON, (PUT, 1, 0), (KEEP,), (PUT, 0, 0))
        self.assertEqual(last(*before, (SEARCH, 20000)), [-6])
        self.assertEqual(snapshot(desk_after(*before, (SEARCH, 20000))), snapshot(desk_after(*before)))

    def test_what_is_put_does_not_matter(self):
        self.assertEqual(last(WIDE, WIDE, (PUT, 0, 3), (PUT, 1, 0), (SEARCH, 3)), [2, 0, 1])

    def test_greatest_budget_spent(self):
        tight = [(MESSAGE, 64, 9, 0, 55, 1)] * 8
        self.assertEqual(last(*tight, (SEARCH, 20000)), [-10])


class CountTest(Budget, unittest.TestCase):
    place = COUNT

    def test_no_messages(self):
        self.just_enough([], 1, [1])

    def test_one_message(self):
        # Each of the 4 is chosen and counted, and then one is beyond.
        self.just_enough([WIDE], 9, [4])
        self.just_enough([(MESSAGE, 20, 2, 5, 9, 2)], 11, [5])

    def test_two_messages(self):
        # For each of message 0's 4: chosen, 4 looked at, 3 counted, one beyond; one beyond at the end.
        self.just_enough([WIDE, WIDE], 37, [12])

    def test_none(self):
        self.just_enough([ALWAYS_ON, ALWAYS_ON], 4, [0])

    def test_demands(self):
        self.just_enough([WIDE, WIDE, (DEMAND, 0, 0, 1, 0)], 31, [6])
        self.just_enough([WIDE, WIDE, (DEMAND, 0, 0, 1, 1), (DEMAND, 1, 1, 0, 1)], 27, [2])

    def test_eight_messages(self):
        eight = [(MESSAGE, 8, 1, m, m, 3) for m in range(8)]
        self.just_enough(eight, 8 + 1 + 8, [1])

    def test_changes_nothing(self):
        before = (WIDE, WIDE, (DEMAND, 1, 0, 1, 0), (PUT, 0, 3), (KEEP,), (PUT, 0, 2))
        self.assertEqual(snapshot(desk_after(*before, (COUNT, 20000))), snapshot(desk_after(*before)))


class BlameTest(Budget, unittest.TestCase):
    place = BLAME

    def test_no_messages(self):
        self.assertEqual(last((BLAME, 1)), [0])

    def test_good_table_there(self):
        self.just_enough([WIDE], 1, [0])
        self.just_enough([WIDE, WIDE], 3, [0])

    def test_each_search_has_the_whole_budget(self):
        # The searches need 1, 3 and 6.
        self.just_enough([WIDE, WIDE, WIDE], 6, [0])

    def test_least_number_of_messages(self):
        self.just_enough([ALWAYS_ON, ALWAYS_ON], 4, [2])
        self.just_enough([ALWAYS_ON, ALWAYS_ON, WIDE, WIDE], 4, [2])
        self.just_enough([(MESSAGE, 4, 1, 0, 0, 2), ALWAYS_ON, WIDE], 9, [3])

    def test_spent_before_one_ends_with_none(self):
        # Two messages need 8 to be found; the third, which none can stand beside, is not come to.
        setup = [WIDE, WIDE, (DEMAND, 0, 1, 0, 0), ALWAYS_ON]
        self.assertEqual(last(*setup, (BLAME, 7)), [-10])
        self.assertEqual(last(*setup, (BLAME, 20000)), [3])

    def test_demands_of_later_messages_do_not_matter(self):
        setup = [WIDE, WIDE, WIDE, (DEMAND, 1, 0, 2, 64), (DEMAND, 1, 1, 2, 64)]
        self.assertEqual(last(*setup, (BLAME, 20000)), [3])

    def test_eight_messages(self):
        tight = [(MESSAGE, 7, 1, m, m, 1) for m in range(7)]
        self.assertEqual(last(*tight, (MESSAGE, 7, 1, 3, 3, 1), (BLAME, 20000)), [8])
        self.assertEqual(last(*tight, (MESSAGE, 7, 1, 3, 3, 2), (BLAME, 20000)), [0])

    def test_changes_nothing(self):
        before = (WIDE, WIDE, (DEMAND, 1, 0, 1, 0), (PUT, 0, 3), (KEEP,), (PUT, 0, 2))
        self.assertEqual(last(*before, (BLAME, 20000)), [0])
        self.assertEqual(snapshot(desk_after(*before, (BLAME, 20000))), snapshot(desk_after(*before)))
