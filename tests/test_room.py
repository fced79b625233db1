"""Promise 10: room."""

import unittest

from tests.helper import BIG, CHECK, DEMAND, KEEP, MESSAGE, PUT, ROOM, UNPUT, ask, desk_after, last, snapshot

TEN = (MESSAGE, 10, 2, 0, 8, 1)
OTHER_BUS = (MESSAGE, 10, 2, 0, 8, 2)
BOTH = (MESSAGE, 10, 2, 0, 8, 3)


class RoomTest(unittest.TestCase):
    def test_alone_it_has_its_window(self):
        self.assertEqual(last((MESSAGE, 10, 2, 3, 6, 1), (ROOM, 0)), [4, 3, 4, 5, 6])
        self.assertEqual(last((MESSAGE, 10, 2, 4, 4, 1), (ROOM, 0)), [1, 4])
        self.assertEqual(last((MESSAGE, 1, 1, 0, 0, 3), (ROOM, 0)), [1, 0])
        self.assertEqual(last((MESSAGE, 64, 1, 0, 63, 3), (ROOM, 0)), [64] + list(range(64)))

    def test_others_that_are_put(self):
        self.assertEqual(last(TEN, TEN, (PUT, 0, 4), (ROOM, 1)), [6, 0, 1, 2, 6, 7, 8])
        self.assertEqual(last(TEN, TEN, (PUT, 1, 4), (ROOM, 0)), [6, 0, 1, 2, 6, 7, 8])

    def test_others_round_the_period_s_end(self):
        late = (MESSAGE, 10, 2, 0, 8, 1)
        self.assertEqual(last(late, TEN, (PUT, 0, 0), (ROOM, 1)), [7, 2, 3, 4, 5, 6, 7, 8])
        self.assertEqual(last(late, TEN, (PUT, 0, 8), (ROOM, 1)), [7, 0, 1, 2, 3, 4, 5, 6])

    def test_others_that_are_not_put_do_not_matter(self):
        self.assertEqual(last(TEN, TEN, (ROOM, 1)), [9] + list(range(9)))
        self.assertEqual(last(TEN, TEN, (PUT, 0, 4), (UNPUT, 0), (ROOM, 1)), [9] + list(range(9)))

    def test_where_it_is_put_itself_does_not_matter(self):
        for x in range(9):
            with self.subTest(x=x):
                self.assertEqual(last(TEN, TEN, (PUT, 0, 4), (PUT, 1, x), (ROOM, 1)), [6, 0, 1, 2, 6, 7, 8])

    def test_buses_must_be_shared(self):
        self.assertEqual(last(TEN, OTHER_BUS, (PUT, 0, 4), (ROOM, 1)), [9] + list(range(9)))
        self.assertEqual(last(BOTH, OTHER_BUS, (PUT, 0, 4), (ROOM, 1)), [6, 0, 1, 2, 6, 7, 8])
        self.assertEqual(last(TEN, BOTH, (PUT, 0, 4), (ROOM, 1)), [6, 0, 1, 2, 6, 7, 8])

    def test_several_others(self):
        self.assertEqual(last(TEN, TEN, TEN, (PUT, 0, 0), (PUT, 2, 5), (ROOM, 1)), [4, 2, 3, 7, 8])

    def test_none(self):
        self.assertEqual(last((MESSAGE, 1, 1, 0, 0, 1), TEN, (PUT, 0, 0), (ROOM, 1)), [0])
        self.assertEqual(last(TEN, (MESSAGE, 10, 2, 3, 5, 1), (PUT, 0, 4), (ROOM, 1)), [0])

    def test_unlike_periods(self):
        setup = (MESSAGE, 12, 1, 0, 11, 1), (MESSAGE, 8, 2, 0, 6, 1)
        # By 4, the other is at 1; this one, which takes two, may be at 2 and 3.
        self.assertEqual(last(*setup, (PUT, 0, 9), (ROOM, 1)), [3, 2, 3, 6])
        self.assertEqual(last(*setup, (PUT, 1, 2), (ROOM, 0)), [6, 0, 1, 4, 5, 8, 9])

    def test_no_common_divisor(self):
        setup = (MESSAGE, 7, 1, 0, 6, 1), (MESSAGE, 8, 1, 0, 7, 1)
        self.assertEqual(last(*setup, (PUT, 0, 3), (ROOM, 1)), [0])

    def test_demand_of_kind_0_both_ways(self):
        setup = (TEN, OTHER_BUS, (DEMAND, 0, 0, 1, 1))
        self.assertEqual(last(*setup, (PUT, 0, 2), (ROOM, 1)), [4, 5, 6, 7, 8])
        self.assertEqual(last(*setup, (PUT, 1, 5), (ROOM, 0)), [3, 0, 1, 2])

    def test_demand_of_kind_1_both_ways(self):
        for a, b in ((0, 1), (1, 0)):
            setup = (TEN, OTHER_BUS, (DEMAND, 1, a, b, 2))
            with self.subTest(a=a, b=b):
                self.assertEqual(last(*setup, (PUT, 0, 2), (ROOM, 1)), [3, 6, 7, 8])
                self.assertEqual(last(*setup, (PUT, 1, 6), (ROOM, 0)), [3, 0, 1, 2])

    def test_every_demand_that_it_is_in(self):
        setup = (TEN, OTHER_BUS, OTHER_BUS, (DEMAND, 0, 1, 0, 0), (DEMAND, 0, 0, 2, 0), (DEMAND, 1, 0, 2, 1))
        self.assertEqual(last(*setup, (PUT, 1, 1), (PUT, 2, 8), (ROOM, 0)), [3, 3, 4, 5])

    def test_demand_is_met_while_the_other_is_not_put(self):
        for kind in (0, 1):
            setup = (TEN, OTHER_BUS, (DEMAND, kind, 0, 1, 64))
            with self.subTest(kind=kind):
                self.assertEqual(last(*setup, (ROOM, 0)), [9] + list(range(9)))
                self.assertEqual(last(*setup, (PUT, 0, 0), (ROOM, 0)), [9] + list(range(9)))
                self.assertEqual(last(*setup, (PUT, 1, 8), (ROOM, 0)), [0])

    def test_what_is_wrong_between_others_does_not_matter(self):
        setup = (TEN, TEN, OTHER_BUS, (DEMAND, 0, 0, 1, 0), (PUT, 0, 3), (PUT, 1, 3))
        rows = ask(*setup, (CHECK,), (ROOM, 2))
        self.assertEqual(rows[-2], [3, 1, 2, 2, 2, 0, 1, 3, 0, 0])
        self.assertEqual(rows[-1], [9] + list(range(9)))

    def test_just_what_check_calls_good(self):
        setup = (TEN, BOTH, (MESSAGE, 5, 1, 0, 4, 2), (DEMAND, 1, 2, 0, 1), (PUT, 0, 7), (PUT, 1, 1))
        room = last(*setup, (ROOM, 2))[1:]
        good = [x for x in range(5) if last(*setup, (PUT, 2, x), (CHECK,)) == [0]]
        self.assertEqual(room, good)
        self.assertNotEqual(room, [])

    def test_no_such_message(self):
        for m in (1, -1, 8, BIG, -BIG):
            with self.subTest(m=m):
                self.assertEqual(last(TEN, (ROOM, m)), [-4])
        self.assertEqual(last((ROOM, 0)), [-4])

    def test_changes_nothing(self):
        before = (TEN, OTHER_BUS, (DEMAND, 1, 0, 1, 0), (PUT, 0, 4), (KEEP,), (PUT, 0, 3))
        for m in (0, 1, 2, -1):
            with self.subTest(m=m):
                self.assertEqual(snapshot(desk_after(*before, (ROOM, m))), snapshot(desk_after(*before)))
