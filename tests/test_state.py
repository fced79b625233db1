"""The calls table and state."""

import unittest

from tests.helper import (
    CHECK, DEMAND, KEEP, MESSAGE, PUT, SEARCH, STATE, TABLE, UNPUT, ask, desk_after, last, snapshot,
)

ONE = (MESSAGE, 10, 2, 2, 6, 1)
OTHER = (MESSAGE, 20, 3, 0, 17, 3)
FRESH = [0, 0, 0, 0]


class TableTest(unittest.TestCase):
    def test_no_messages(self):
        self.assertEqual(last((TABLE,)), [0])
        self.assertEqual(ask((KEEP,), (SEARCH, 1), (TABLE,))[-1], [0])

    def test_not_put(self):
        self.assertEqual(last(ONE, (TABLE,)), [1, -1])
        self.assertEqual(last(*[ONE] * 8, (TABLE,)), [8] + [-1] * 8)

    def test_each_message_s_beginning(self):
        self.assertEqual(last(ONE, OTHER, OTHER, (PUT, 0, 3), (PUT, 2, 0), (TABLE,)), [3, 3, -1, 0])

    def test_as_it_is_now(self):
        rows = ask(ONE, (PUT, 0, 3), (TABLE,), (PUT, 0, 5), (TABLE,), (UNPUT, 0), (TABLE,))
        self.assertEqual(rows[2::2], [[1, 3], [1, 5], [1, -1]])

    def test_after_the_search(self):
        self.assertEqual(last(ONE, ONE, (PUT, 0, 6), (SEARCH, 100), (TABLE,)), [2, 2, 4])
        self.assertEqual(last(ONE, ONE, (PUT, 0, 6), (SEARCH, 1), (TABLE,)), [2, 6, -1])

    def test_bad_table_too(self):
        self.assertEqual(last(ONE, ONE, (PUT, 0, 3), (PUT, 1, 3), (TABLE,)), [2, 3, 3])

    def test_the_table_and_not_the_kept_one(self):
        self.assertEqual(last(ONE, (PUT, 0, 3), (KEEP,), (PUT, 0, 4), (TABLE,)), [1, 4])

    def test_changes_nothing(self):
        before = (ONE, OTHER, (DEMAND, 1, 0, 1, 0), (PUT, 0, 3), (KEEP,), (PUT, 0, 4))
        self.assertEqual(snapshot(desk_after(*before, (TABLE,))), snapshot(desk_after(*before)))
        self.assertEqual(ask(*before, (TABLE,), (PUT, 1, 7), (TABLE,))[-3:], [[2, 4, -1], [0], [2, 4, 7]])


class StateTest(unittest.TestCase):
    def test_fresh(self):
        self.assertEqual(last((STATE,)), FRESH)

    def test_no_messages_and_kept(self):
        self.assertEqual(last((KEEP,), (STATE,)), FRESH)

    def test_none_kept(self):
        self.assertEqual(last(ONE, (STATE,)), [1, 10, 2, 2, 6, 1, 0, 1, -1, 0])
        self.assertEqual(last(ONE, (PUT, 0, 3), (STATE,)), [1, 10, 2, 2, 6, 1, 0, 1, 3, 0])

    def test_kept(self):
        self.assertEqual(last(ONE, (KEEP,), (STATE,)), [1, 10, 2, 2, 6, 1, 0, 1, -1, 1, -1])
        rows = ask(ONE, (PUT, 0, 3), (KEEP,), (STATE,), (PUT, 0, 4), (STATE,), (UNPUT, 0), (STATE,))
        self.assertEqual(rows[3::2], [
            [1, 10, 2, 2, 6, 1, 0, 1, 3, 1, 3],
            [1, 10, 2, 2, 6, 1, 0, 1, 4, 1, 3],
            [1, 10, 2, 2, 6, 1, 0, 1, -1, 1, 3],
        ])

    def test_no_more_kept_with_a_new_message(self):
        self.assertEqual(
            last(ONE, (PUT, 0, 3), (KEEP,), OTHER, (STATE,)),
            [2, 10, 2, 2, 6, 1, 20, 3, 0, 17, 3, 0, 2, 3, -1, 0],
        )

    def test_all_of_it_in_order(self):
        calls = (
            ONE, OTHER, (MESSAGE, 20, 1, 4, 9, 2),
            (DEMAND, 0, 2, 1, 5), (DEMAND, 1, 0, 2, 64),
            (PUT, 0, 2), (PUT, 2, 8), (KEEP,), (PUT, 1, 17), (PUT, 0, 6),
        )
        self.assertEqual(last(*calls, (STATE,)), [
            3, 10, 2, 2, 6, 1, 20, 3, 0, 17, 3, 20, 1, 4, 9, 2,
            2, 0, 2, 1, 5, 1, 0, 2, 64,
            3, 6, 17, 8,
            3, 2, -1, 8,
        ])

    def test_as_much_as_there_may_be(self):
        calls = [OTHER] * 8 + [(DEMAND, 0, d % 8, 7 - d % 8, d) for d in range(16)] + [(PUT, m, m) for m in range(8)]
        want = [8] + [20, 3, 0, 17, 3] * 8 + [16]
        for d in range(16):
            want += [0, d % 8, 7 - d % 8, d]
        row = [8, 0, 1, 2, 3, 4, 5, 6, 7]
        self.assertEqual(last(*calls, (STATE,)), want + row + [0])
        self.assertEqual(last(*calls, (KEEP,), (STATE,)), want + row + row)

    def test_changes_nothing(self):
        before = (ONE, OTHER, (DEMAND, 1, 0, 1, 0), (PUT, 0, 3), (KEEP,), (PUT, 0, 4))
        self.assertEqual(snapshot(desk_after(*before, (STATE,))), snapshot(desk_after(*before)))
        rows = ask(*before, (STATE,), (STATE,), (CHECK,))
        self.assertEqual(rows[-2], rows[-3])
