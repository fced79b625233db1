"""Promises 2, 3 and 8, put, unput and keep, and the call check."""

import unittest

from tests.helper import BIG, CHECK, DEMAND, KEEP, MESSAGE, PUT, SEARCH, UNPUT, ask, desk_after, last, snapshot

ONE = (MESSAGE, 10, 2, 2, 6, 1)


class PutTest(unittest.TestCase):
    def test_answers_zero_and_puts(self):
        self.assertEqual(ask(ONE, (CHECK,), (PUT, 0, 3), (CHECK,)), [[0], [1, 1, 0, 0], [0], [0]])
        self.assertEqual(desk_after(ONE, (PUT, 0, 3)).table, [3])

    def test_puts_elsewhere_wherever_it_was(self):
        self.assertEqual(desk_after(ONE, ONE, (PUT, 1, 3), (PUT, 1, 6)).table, [-1, 6])

    def test_puts_be_it_good_or_not(self):
        rows = ask(ONE, ONE, (PUT, 0, 3), (PUT, 1, 3), (CHECK,))
        self.assertEqual(rows[2:], [[0], [0], [1, 2, 0, 1]])

    def test_ends_of_the_window(self):
        for x, answer in ((1, -5), (2, 0), (6, 0), (7, -5)):
            with self.subTest(x=x):
                self.assertEqual(last(ONE, (PUT, 0, x)), [answer])

    def test_ends_of_the_range(self):
        wide = (MESSAGE, 64, 1, 0, 63, 1)
        for x, answer in ((-1, -1), (0, 0), (63, 0), (64, -1), (BIG, -1), (-BIG, -1)):
            with self.subTest(x=x):
                self.assertEqual(last(wide, (PUT, 0, x)), [answer])

    def test_no_such_message(self):
        for m in (1, -1, 8, BIG, -BIG):
            with self.subTest(m=m):
                self.assertEqual(last(ONE, (PUT, m, 3)), [-4])
        self.assertEqual(last((PUT, 0, 0)), [-4])

    def test_first_refusal_in_order(self):
        self.assertEqual(last(ONE, (PUT, 1, 64)), [-1])
        self.assertEqual(last(ONE, (PUT, 0, 64)), [-1])
        self.assertEqual(last(ONE, (PUT, 1, 63)), [-4])
        self.assertEqual(last(ONE, (PUT, -1, 3)), [-4])

    def test_refusal_changes_nothing(self):
        before = (ONE, ONE, (PUT, 0, 4), (PUT, 1, 2), (KEEP,))
        held = snapshot(desk_after(*before))
        for call in ((PUT, 0, 64), (PUT, 0, -1), (PUT, 2, 3), (PUT, -1, 3), (PUT, 0, 7), (PUT, 0, 1)):
            with self.subTest(call=call):
                self.assertEqual(snapshot(desk_after(*before, call)), held)


class UnputTest(unittest.TestCase):
    def test_is_put_no_more(self):
        rows = ask(ONE, ONE, (PUT, 0, 3), (PUT, 1, 3), (UNPUT, 0), (CHECK,), (UNPUT, 0))
        self.assertEqual(rows[4:], [[0], [1, 1, 0, 0], [-7]])

    def test_put_at_0_counts_as_put(self):
        wide = (MESSAGE, 10, 1, 0, 9, 1)
        self.assertEqual(ask(wide, (PUT, 0, 0), (UNPUT, 0), (UNPUT, 0))[2:], [[0], [-7]])

    def test_not_put(self):
        self.assertEqual(last(ONE, (UNPUT, 0)), [-7])

    def test_found_by_the_search_counts_as_put(self):
        self.assertEqual(last(ONE, (SEARCH, 10), (UNPUT, 0)), [0])

    def test_no_such_message(self):
        for m in (1, -1, 8, BIG, -BIG):
            with self.subTest(m=m):
                self.assertEqual(last(ONE, (PUT, 0, 3), (UNPUT, m)), [-4])
        self.assertEqual(last((UNPUT, 0)), [-4])

    def test_refusal_changes_nothing(self):
        before = (ONE, ONE, (PUT, 1, 3), (KEEP,))
        held = snapshot(desk_after(*before))
        for m in (0, 2, -1):
            with self.subTest(m=m):
                self.assertEqual(snapshot(desk_after(*before, (UNPUT, m))), held)


class CheckTest(unittest.TestCase):
    def test_no_messages(self):
        self.assertEqual(last((CHECK,)), [0])

    def test_all_in_order(self):
        rows = ask(
            (MESSAGE, 10, 2, 0, 8, 1),
            (MESSAGE, 10, 2, 0, 8, 1),
            (MESSAGE, 10, 2, 0, 8, 3),
            (MESSAGE, 10, 2, 0, 8, 2),
            (MESSAGE, 10, 2, 0, 8, 2),
            (MESSAGE, 10, 2, 0, 8, 2),
            (DEMAND, 0, 0, 1, 0),
            (DEMAND, 0, 0, 4, 0),
            (DEMAND, 1, 2, 0, 0),
            (PUT, 0, 3),
            (PUT, 1, 3),
            (PUT, 2, 4),
            (PUT, 3, 5),
            (CHECK,),
        )
        wrong = [[1, 4, 4], [1, 5, 5], [2, 0, 1], [2, 0, 2], [2, 1, 2], [2, 2, 3], [3, 0, 0], [3, 2, 2]]
        self.assertEqual(rows[-1], [8] + [number for row in wrong for number in row])

    def test_every_pair_by_the_first_then_the_second(self):
        eight = [(MESSAGE, 4, 1, 0, 3, 1)] * 8
        puts = [(PUT, m, 2) for m in range(8)]
        pairs = [number for i in range(8) for j in range(i + 1, 8) for number in (2, i, j)]
        self.assertEqual(last(*eight, *puts, (CHECK,)), [28] + pairs)

    def test_buses_must_be_shared(self):
        for one, other, wrong in ((1, 1, 1), (1, 2, 0), (1, 3, 1), (2, 1, 0), (2, 2, 1), (2, 3, 1), (3, 3, 1)):
            with self.subTest(one=one, other=other):
                calls = (MESSAGE, 5, 1, 0, 4, one), (MESSAGE, 5, 1, 0, 4, other), (PUT, 0, 2), (PUT, 1, 2)
                self.assertEqual(last(*calls, (CHECK,))[0], wrong)

    def test_collision_far_off_in_time(self):
        setup = (MESSAGE, 63, 1, 0, 62, 1), (MESSAGE, 64, 1, 0, 63, 1)
        self.assertEqual(last(*setup, (PUT, 0, 1), (PUT, 1, 0), (CHECK,)), [1, 2, 0, 1])
        setup = (MESSAGE, 62, 1, 0, 61, 1), (MESSAGE, 64, 1, 0, 63, 1)
        self.assertEqual(last(*setup, (PUT, 0, 1), (PUT, 1, 0), (CHECK,)), [0])
        self.assertEqual(last(*setup, (PUT, 0, 2), (PUT, 1, 0), (CHECK,)), [1, 2, 0, 1])

    def test_one_behind_the_other_is_no_collision(self):
        setup = (MESSAGE, 6, 2, 0, 4, 1), (MESSAGE, 6, 3, 0, 3, 1)
        for x, y, wrong in ((0, 2, 0), (0, 3, 0), (0, 1, 1), (1, 3, 0), (2, 3, 1), (4, 0, 0), (4, 1, 0), (4, 2, 1)):
            with self.subTest(x=x, y=y):
                self.assertEqual(last(*setup, (PUT, 0, x), (PUT, 1, y), (CHECK,))[0], wrong)

    def test_changes_nothing(self):
        before = (ONE, ONE, (PUT, 1, 3), (KEEP,), (PUT, 0, 3))
        self.assertEqual(snapshot(desk_after(*before, (CHECK,))), snapshot(desk_after(*before)))


class KeepTest(unittest.TestCase):
    def test_answers_zero(self):
        self.assertEqual(last((KEEP,)), [0])
        self.assertEqual(last(ONE, (KEEP,)), [0])
        self.assertEqual(ask(ONE, (PUT, 0, 3), (KEEP,), (KEEP,))[2:], [[0], [0]])

    def test_keeps_the_table_as_it_is_now(self):
        self.assertEqual(desk_after(ONE, ONE, (PUT, 1, 3), (KEEP,)).kept, [-1, 3])

    def test_keeps_a_table_that_is_not_good(self):
        self.assertEqual(desk_after(ONE, ONE, (PUT, 0, 3), (PUT, 1, 3), (KEEP,)).kept, [3, 3])

    def test_kept_table_stays_as_it_was(self):
        before = (ONE, ONE, (PUT, 1, 3), (KEEP,))
        for call in ((PUT, 1, 4), (PUT, 0, 2), (UNPUT, 1), (SEARCH, 100)):
            with self.subTest(call=call):
                self.assertEqual(desk_after(*before, call).kept, [-1, 3])

    def test_keeps_anew(self):
        self.assertEqual(desk_after(ONE, (PUT, 0, 2), (KEEP,), (PUT, 0, 5), (KEEP,)).kept, [5])

    def test_leaves_the_rest(self):
        before = (ONE, ONE, (DEMAND, 1, 0, 1, 0), (PUT, 1, 3))
        self.assertEqual(snapshot(desk_after(*before, (KEEP,)))[:3], snapshot(desk_after(*before))[:3])
