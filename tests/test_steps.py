"""Promise 9: steps."""

import unittest

from tests.helper import (
    CHECK, DEMAND, KEEP, MESSAGE, PUT, SEARCH, STEPS, TABLE, UNPUT, ask, desk_after, last, snapshot,
)

PAIR = (MESSAGE, 10, 2, 0, 8, 1)
OTHER_BUS = (MESSAGE, 10, 2, 0, 8, 2)
ONE_SLOT = (MESSAGE, 8, 1, 0, 7, 1)


def puts(table):
    return [(PUT, m, x) for m, x in enumerate(table)]


def steps(setup, kept, table):
    """What steps answers from the one table, which is kept, to the other."""
    return last(*setup, *puts(kept), (KEEP,), *puts(table), (STEPS,))


class StepsTest(unittest.TestCase):
    def test_no_messages_the_empty_table_counts_as_kept(self):
        self.assertEqual(ask((STEPS,), (KEEP,), (STEPS,)), [[0], [0], [0]])
        self.assertEqual(ask((SEARCH, 1), (STEPS,))[1:], [[0]])

    def test_empty_table_counts_as_kept_after_a_refused_message(self):
        self.assertEqual(last((MESSAGE, 0, 1, 0, 0, 1), (STEPS,)), [0])

    def test_nothing_to_move(self):
        self.assertEqual(steps([PAIR], [3], [3]), [0])
        self.assertEqual(steps([PAIR, PAIR], [3, 7], [3, 7]), [0])
        self.assertEqual(last(PAIR, (PUT, 0, 3), (KEEP,), (PUT, 0, 5), (PUT, 0, 3), (STEPS,)), [0])

    def test_one_to_move(self):
        self.assertEqual(steps([PAIR], [3], [0]), [1, 0])
        self.assertEqual(steps([PAIR, PAIR], [3, 7], [3, 5]), [1, 1])

    def test_to_and_from_the_beginning_0(self):
        self.assertEqual(steps([PAIR], [0], [8]), [1, 0])
        self.assertEqual(steps([PAIR], [8], [0]), [1, 0])

    def test_only_those_that_begin_elsewhere(self):
        self.assertEqual(steps([PAIR] * 4, [0, 2, 4, 6], [1, 3, 5, 7]), [4, 3, 2, 1, 0])
        self.assertEqual(steps([PAIR] * 4, [0, 2, 5, 8], [0, 3, 5, 7]), [2, 1, 3])

    def test_smallest_first_where_any_order_does(self):
        self.assertEqual(steps([PAIR] * 3, [0, 2, 4], [6, 2, 8]), [2, 0, 2])
        self.assertEqual(steps([ONE_SLOT] * 4, [0, 1, 2, 3], [4, 5, 6, 7]), [4, 0, 1, 2, 3])

    def test_one_order_alone(self):
        # Each goes where the one of the next number was.
        self.assertEqual(steps([PAIR] * 3, [0, 2, 4], [2, 4, 6]), [3, 2, 1, 0])
        # Each goes where the one of the number before was.
        self.assertEqual(steps([PAIR] * 3, [2, 4, 6], [0, 2, 4]), [3, 0, 1, 2])

    def test_smallest_row_of_several(self):
        # 0 waits for 3; 1 and 2 may go at any time.
        self.assertEqual(steps([ONE_SLOT] * 4, [0, 1, 2, 3], [3, 5, 6, 7]), [4, 1, 2, 3, 0])
        # 0 waits for 2, so once 2 is gone 0 is ahead of 3.
        self.assertEqual(steps([ONE_SLOT] * 4, [0, 1, 2, 3], [2, 5, 6, 7]), [4, 1, 2, 0, 3])

    def test_none(self):
        self.assertEqual(steps([PAIR, PAIR], [0, 2], [2, 0]), [-6])
        # Three that go round.
        self.assertEqual(steps([ONE_SLOT] * 3, [0, 1, 2], [1, 2, 0]), [-6])
        # One that could go does not help two that can't.
        self.assertEqual(steps([ONE_SLOT] * 3, [0, 1, 2], [5, 2, 1]), [-6])

    def test_each_moves_once_though_a_detour_would_help(self):
        self.assertEqual(steps([ONE_SLOT] * 2, [0, 1], [1, 0]), [-6])

    def test_swap_on_two_buses(self):
        self.assertEqual(steps([PAIR, OTHER_BUS], [0, 2], [2, 0]), [2, 0, 1])

    def test_demand_of_kind_0_on_the_way(self):
        setup = [PAIR, OTHER_BUS, (DEMAND, 0, 0, 1, 1)]
        self.assertEqual(steps(setup, [0, 3], [4, 7]), [2, 1, 0])
        self.assertEqual(steps(setup, [4, 7], [0, 3]), [2, 0, 1])
        self.assertEqual(steps(setup, [0, 6], [2, 5]), [2, 0, 1])

    def test_demand_of_kind_1_on_the_way(self):
        setup = [PAIR, OTHER_BUS, (DEMAND, 1, 0, 1, 3)]
        self.assertEqual(steps(setup, [0, 5], [1, 6]), [-6])
        setup = [PAIR, OTHER_BUS, (DEMAND, 1, 1, 0, 2)]
        self.assertEqual(steps(setup, [0, 5], [1, 6]), [2, 0, 1])
        self.assertEqual(steps(setup, [0, 6], [1, 7]), [2, 0, 1])
        self.assertEqual(steps(setup, [0, 4], [1, 5]), [2, 1, 0])

    def test_round_the_period_s_end(self):
        self.assertEqual(steps([PAIR, PAIR], [0, 8], [8, 6]), [2, 1, 0])
        self.assertEqual(steps([PAIR, PAIR], [8, 0], [7, 5]), [2, 0, 1])

    def test_unlike_periods(self):
        setup = [(MESSAGE, 12, 1, 0, 11, 1), (MESSAGE, 8, 1, 0, 7, 1)]
        # By 4, the first goes from 0 to 1 and the second from 1 to 2.
        self.assertEqual(steps(setup, [4, 5], [9, 2]), [2, 1, 0])
        self.assertEqual(steps(setup, [4, 5], [9, 4]), [-6])

    def test_eight_messages(self):
        eight = [(MESSAGE, 16, 1, 0, 15, 3)] * 8
        low, high = list(range(8)), list(range(8, 16))
        self.assertEqual(steps(eight, low, high), [8, 0, 1, 2, 3, 4, 5, 6, 7])
        self.assertEqual(steps(eight, low, [x + 1 for x in low]), [8, 7, 6, 5, 4, 3, 2, 1, 0])
        self.assertEqual(steps(eight, low, low[1:] + low[:1]), [-6])

    def test_beginning_with_the_kept_one_not_with_what_was_put_since(self):
        rows = ask(PAIR, PAIR, *puts([0, 2]), (KEEP,), *puts([6, 8]), *puts([2, 4]), (STEPS,))
        self.assertEqual(rows[-1], [2, 1, 0])

    def test_to_the_table_that_the_search_found(self):
        rows = ask(PAIR, PAIR, *puts([2, 5]), (KEEP,), (SEARCH, 100), (STEPS,))
        self.assertEqual(rows[-2:], [[2, 0, 2], [2, 0, 1]])

    def test_every_table_on_the_way_is_good(self):
        setup = [ONE_SLOT] * 4 + [(DEMAND, 0, 1, 0, 0)]
        kept, table = [5, 2, 3, 7], [3, 1, 7, 6]
        row = steps(setup, kept, table)
        self.assertEqual(row, [4, 1, 3, 2, 0])
        moves = [call for m in row[1:] for call in ((PUT, m, table[m]), (CHECK,))]
        rows = ask(*setup, *puts(kept), *moves, (TABLE,))
        self.assertEqual(rows[-1], [4] + table)
        self.assertEqual(rows[-8:-1:2] + rows[-2:-1], [[0]] * 5)


class StepsRefusalTest(unittest.TestCase):
    def test_no_table_kept(self):
        self.assertEqual(last(PAIR, (PUT, 0, 3), (STEPS,)), [-7])
        self.assertEqual(last((KEEP,), PAIR, (PUT, 0, 3), (STEPS,)), [-7])

    def test_no_table_kept_any_more(self):
        self.assertEqual(last(PAIR, (PUT, 0, 3), (KEEP,), PAIR, (PUT, 1, 6), (STEPS,)), [-7])

    def test_refused_message_leaves_the_kept_one(self):
        before = (PAIR, (PUT, 0, 3), (KEEP,), (PUT, 0, 4))
        for call in ((MESSAGE, 65, 1, 0, 0, 1), (MESSAGE, 10, 2, 5, 4, 1)):
            self.assertEqual(last(*before, call, (STEPS,)), [1, 0])

    def test_kept_one_not_good(self):
        self.assertEqual(steps([PAIR, PAIR], [3, 4], [3, 6]), [-11])
        self.assertEqual(last(PAIR, (KEEP,), (PUT, 0, 3), (STEPS,)), [-11])
        self.assertEqual(steps([PAIR, OTHER_BUS, (DEMAND, 0, 0, 1, 0)], [3, 4], [3, 6]), [-11])

    def test_table_not_good(self):
        self.assertEqual(steps([PAIR, PAIR], [3, 6], [3, 4]), [-11])
        self.assertEqual(last(PAIR, (PUT, 0, 3), (KEEP,), (UNPUT, 0), (STEPS,)), [-11])
        self.assertEqual(steps([PAIR, OTHER_BUS, (DEMAND, 0, 0, 1, 0)], [3, 6], [3, 4]), [-11])

    def test_both_not_good(self):
        self.assertEqual(last(PAIR, (KEEP,), (STEPS,)), [-11])
        self.assertEqual(steps([PAIR, PAIR], [3, 4], [3, 4]), [-11])

    def test_kept_one_not_good_by_a_later_demand(self):
        before = (PAIR, OTHER_BUS, *puts([3, 4]), (KEEP,), (PUT, 1, 6))
        self.assertEqual(last(*before, (STEPS,)), [1, 1])
        self.assertEqual(last(*before, (DEMAND, 1, 0, 1, 0), (STEPS,)), [-11])

    def test_good_again(self):
        before = (PAIR, PAIR, *puts([3, 6]), (KEEP,), (PUT, 1, 4))
        self.assertEqual(ask(*before, (STEPS,), (PUT, 1, 5), (STEPS,))[-3:], [[-11], [0], [1, 1]])

    def test_first_refusal_in_order(self):
        # Nothing is kept, and the table isn't good.
        self.assertEqual(last(PAIR, (STEPS,)), [-7])
        self.assertEqual(last(PAIR, PAIR, *puts([3, 3]), (STEPS,)), [-7])
        # The table isn't good, and no row leads there: each stands where the other was, and a third beside one.
        self.assertEqual(steps([PAIR] * 3, [0, 2, 5], [2, 0, 3]), [-11])
        self.assertEqual(steps([PAIR] * 3, [0, 2, 1], [2, 0, 6]), [-11])

    def test_changes_nothing(self):
        for kept, table in (([0, 2], [2, 4]), ([0, 2], [2, 0]), ([0, 2], [0, 1]), ([0, 2], [0, 2])):
            before = (PAIR, PAIR, *puts(kept), (KEEP,), *puts(table))
            with self.subTest(kept=kept, table=table):
                self.assertEqual(snapshot(desk_after(*before, (STEPS,))), snapshot(desk_after(*before)))
                rows = ask(*before, (STEPS,), (STEPS,))
                self.assertEqual(rows[-1], rows[-2])
        self.assertEqual(snapshot(desk_after(PAIR, (STEPS,))), snapshot(desk_after(PAIR)))
