"""Promise 0: message."""

import unittest

from tests.helper import BIG, CHECK, COUNT, KEEP, MESSAGE, PUT, ask, desk_after, last, snapshot

PLAIN = (MESSAGE, 10, 2, 1, 5, 1)


class MessageTest(unittest.TestCase):
    def test_numbers_go_up_from_zero(self):
        self.assertEqual(ask(PLAIN, PLAIN, PLAIN), [[0], [1], [2]])

    def test_new_message_is_not_put(self):
        self.assertEqual(last(PLAIN, PLAIN, (CHECK,)), [2, 1, 0, 0, 1, 1, 1])

    def test_new_message_leaves_the_others_put(self):
        self.assertEqual(last(PLAIN, (PUT, 0, 3), PLAIN, (CHECK,)), [1, 1, 1, 1])

    def test_what_is_told_is_what_is_held(self):
        desk = desk_after((MESSAGE, 20, 3, 4, 9, 2), (MESSAGE, 64, 1, 0, 63, 3))
        self.assertEqual(snapshot(desk)[0], [(20, 3, 4, 9, 2), (64, 1, 0, 63, 3)])

    def test_no_table_is_kept_any_more(self):
        self.assertEqual(desk_after().kept, [])
        self.assertIsNone(desk_after(PLAIN).kept)
        self.assertIsNone(desk_after((KEEP,), PLAIN).kept)
        self.assertIsNone(desk_after(PLAIN, (PUT, 0, 1), (KEEP,), PLAIN).kept)

    def test_ends_of_each_range_are_in(self):
        for call in (
            (1, 1, 0, 0, 1),
            (64, 64, 0, 0, 3),
            (64, 1, 63, 63, 2),
            (64, 1, 0, 63, 1),
            (64, 1, 0, 0, 1),
        ):
            with self.subTest(call=call):
                self.assertEqual(last((MESSAGE,) + call), [0])

    def test_out_of_range(self):
        for place, values in (
            (0, (0, 65, -1, BIG, -BIG)),
            (1, (0, 65, -1, BIG, -BIG)),
            (2, (-1, 64, BIG, -BIG)),
            (3, (-1, 64, BIG, -BIG)),
            (4, (0, 4, -1, BIG, -BIG)),
        ):
            for value in values:
                numbers = [64, 1, 0, 63, 1]
                numbers[place] = value
                with self.subTest(numbers=numbers):
                    self.assertEqual(last((MESSAGE, *numbers)), [-1])

    def test_latest_before_earliest(self):
        self.assertEqual(last((MESSAGE, 10, 1, 5, 4, 1)), [-5])
        self.assertEqual(last((MESSAGE, 10, 1, 5, 5, 1)), [0])

    def test_latest_and_length_beyond_period(self):
        self.assertEqual(last((MESSAGE, 10, 4, 0, 7, 1)), [-5])
        self.assertEqual(last((MESSAGE, 10, 4, 0, 6, 1)), [0])
        self.assertEqual(last((MESSAGE, 63, 64, 0, 0, 1)), [-5])
        self.assertEqual(last((MESSAGE, 1, 1, 0, 1, 1)), [-5])

    def test_eight_at_most(self):
        rows = ask(*[PLAIN] * 10)
        self.assertEqual(rows, [[0], [1], [2], [3], [4], [5], [6], [7], [-8], [-8]])

    def test_first_refusal_in_order(self):
        self.assertEqual(last((MESSAGE, 10, 1, 5, 4, 0)), [-1])
        self.assertEqual(last((MESSAGE, 10, 20, 0, 64, 1)), [-1])
        eight = [PLAIN] * 8
        self.assertEqual(last(*eight, (MESSAGE, 10, 1, 5, 4, 4)), [-1])
        self.assertEqual(last(*eight, (MESSAGE, 10, 1, 5, 4, 1)), [-5])

    def test_refusal_changes_nothing(self):
        before = [PLAIN, (PUT, 0, 2), (KEEP,)]
        held = snapshot(desk_after(*before))
        for call in ((MESSAGE, 0, 1, 0, 0, 1), (MESSAGE, 10, 1, 5, 4, 1)):
            with self.subTest(call=call):
                self.assertEqual(snapshot(desk_after(*before, call)), held)
                self.assertEqual(last(*before, call, PLAIN), [1])
        before = [PLAIN] * 8 + [(PUT, 0, 2), (KEEP,)]
        self.assertEqual(snapshot(desk_after(*before, PLAIN)), snapshot(desk_after(*before)))

    def test_window_is_what_the_count_goes_through(self):
        self.assertEqual(last((MESSAGE, 10, 2, 1, 5, 1), (COUNT, 20000)), [5])
