"""Promises 11 and 12: at and next."""

import unittest

from tests.helper import AT, BIG, KEEP, MESSAGE, NEXT, PUT, UNPUT, desk_after, last, snapshot

TEN = (MESSAGE, 10, 2, 0, 8, 1)
BOTH = (MESSAGE, 10, 2, 0, 8, 3)
OTHER_BUS = (MESSAGE, 10, 2, 0, 8, 2)
SEVEN = (MESSAGE, 7, 3, 0, 4, 1)


class BusAndTime:
    """What is alike for both calls."""

    place = AT

    def test_out_of_range(self):
        for bus, time in ((-1, 0), (2, 0), (BIG, 0), (-BIG, 0), (0, -1), (1, -1), (0, -BIG), (2, -1), (-1, BIG)):
            with self.subTest(bus=bus, time=time):
                self.assertEqual(last((self.place, bus, time)), [-1])
                self.assertEqual(last(BOTH, (PUT, 0, 0), (self.place, bus, time)), [-1])

    def test_ends_of_each_range_are_in(self):
        for bus in (0, 1):
            for time in (0, BIG):
                with self.subTest(bus=bus, time=time):
                    self.assertNotEqual(last((self.place, bus, time)), [-1])
                    self.assertNotEqual(last(BOTH, (PUT, 0, 0), (self.place, bus, time)), [-1])

    def test_changes_nothing(self):
        before = (TEN, OTHER_BUS, (PUT, 0, 4), (KEEP,), (PUT, 0, 3))
        for bus, time in ((0, 0), (0, 3), (1, 3), (0, BIG), (2, 0), (0, -1)):
            with self.subTest(bus=bus, time=time):
                held = snapshot(desk_after(*before))
                self.assertEqual(snapshot(desk_after(*before, (self.place, bus, time))), held)


class AtTest(BusAndTime, unittest.TestCase):
    def test_no_messages(self):
        for bus in (0, 1):
            for time in (0, 1, BIG):
                self.assertEqual(last((AT, bus, time)), [0])

    def test_from_the_beginning_for_as_long_as_it_is(self):
        setup = (SEVEN, (PUT, 0, 2))
        on = [time for time in range(30) if last(*setup, (AT, 0, time)) == [1, 0]]
        off = [time for time in range(30) if last(*setup, (AT, 0, time)) == [0]]
        self.assertEqual(on, [2, 3, 4, 9, 10, 11, 16, 17, 18, 23, 24, 25])
        self.assertEqual(sorted(on + off), list(range(30)))

    def test_time_0(self):
        self.assertEqual(last(TEN, (PUT, 0, 0), (AT, 0, 0)), [1, 0])
        self.assertEqual(last(TEN, (PUT, 0, 1), (AT, 0, 0)), [0])
        self.assertEqual(last(TEN, (PUT, 0, 8), (AT, 0, 0)), [0])

    def test_far_off(self):
        # The time leaves 1 by 7: 10 leaves 3 by 7, its sixth power 1, and the eighteenth too.
        for x, on in ((0, True), (1, True), (2, False), (3, False), (4, False)):
            with self.subTest(x=x):
                self.assertEqual(last(SEVEN, (PUT, 0, x), (AT, 0, BIG)), [1, 0] if on else [0])
        self.assertEqual(last(SEVEN, (PUT, 0, 4), (AT, 0, BIG - 4)), [1, 0])
        self.assertEqual(last(SEVEN, (PUT, 0, 4), (AT, 0, BIG - 5)), [0])
        self.assertEqual(last(TEN, (PUT, 0, 0), (AT, 0, BIG)), [1, 0])
        self.assertEqual(last(TEN, (PUT, 0, 8), (AT, 0, BIG - 1)), [1, 0])
        self.assertEqual(last(TEN, (PUT, 0, 8), (AT, 0, BIG)), [0])

    def test_always_on(self):
        for time in (0, 1, 63, 64, BIG):
            self.assertEqual(last((MESSAGE, 1, 1, 0, 0, 2), (PUT, 0, 0), (AT, 1, time)), [1, 0])
            self.assertEqual(last((MESSAGE, 64, 64, 0, 0, 2), (PUT, 0, 0), (AT, 1, time)), [1, 0])

    def test_buses(self):
        for message, on in ((TEN, (True, False)), (OTHER_BUS, (False, True)), (BOTH, (True, True))):
            for bus in (0, 1):
                with self.subTest(message=message, bus=bus):
                    self.assertEqual(last(message, (PUT, 0, 3), (AT, bus, 4)), [1, 0] if on[bus] else [0])

    def test_smallest_of_several(self):
        setup = (OTHER_BUS, TEN, BOTH, (PUT, 0, 3), (PUT, 1, 4), (PUT, 2, 3))
        self.assertEqual(last(*setup, (AT, 0, 3)), [1, 2])
        self.assertEqual(last(*setup, (AT, 0, 4)), [1, 1])
        self.assertEqual(last(*setup, (AT, 0, 5)), [1, 1])
        self.assertEqual(last(*setup, (AT, 1, 3)), [1, 0])

    def test_not_put(self):
        self.assertEqual(last(TEN, (AT, 0, 9)), [0])
        self.assertEqual(last(TEN, (AT, 0, 0)), [0])
        self.assertEqual(last(TEN, TEN, (PUT, 0, 3), (PUT, 1, 3), (UNPUT, 0), (AT, 0, 3)), [1, 1])


class NextTest(BusAndTime, unittest.TestCase):
    place = NEXT

    def test_at_that_time(self):
        self.assertEqual(last(TEN, (PUT, 0, 3), (NEXT, 0, 3)), [0, 3])
        self.assertEqual(last(TEN, (PUT, 0, 3), (NEXT, 0, 13)), [0, 13])
        self.assertEqual(last(TEN, (PUT, 0, 0), (NEXT, 0, 0)), [0, 0])

    def test_after_that_time(self):
        setup = (TEN, (PUT, 0, 3))
        for time, begins in ((0, 3), (2, 3), (4, 13), (5, 13), (12, 13), (14, 23)):
            with self.subTest(time=time):
                self.assertEqual(last(*setup, (NEXT, 0, time)), [0, begins])

    def test_far_off(self):
        self.assertEqual(last(TEN, (PUT, 0, 0), (NEXT, 0, BIG)), [0, BIG])
        self.assertEqual(last(TEN, (PUT, 0, 8), (NEXT, 0, BIG)), [0, BIG + 8])
        self.assertEqual(last(SEVEN, (PUT, 0, 1), (NEXT, 0, BIG)), [0, BIG])
        self.assertEqual(last(SEVEN, (PUT, 0, 0), (NEXT, 0, BIG)), [0, BIG + 6])
        self.assertEqual(last((MESSAGE, 64, 1, 0, 63, 1), (PUT, 0, 63), (NEXT, 0, BIG)), [0, BIG + 63])

    def test_the_one_that_begins_first(self):
        setup = (TEN, SEVEN, (PUT, 0, 5), (PUT, 1, 3))
        # 0 begins at 5, 15, 25, 35; 1 at 3, 10, 17, 24, 31, 38.
        for time, answer in ((0, [1, 3]), (4, [0, 5]), (6, [1, 10]), (11, [0, 15]), (16, [1, 17]), (25, [0, 25])):
            with self.subTest(time=time):
                self.assertEqual(last(*setup, (NEXT, 0, time)), answer)

    def test_smallest_of_several(self):
        setup = (TEN, TEN, SEVEN, (PUT, 1, 3), (PUT, 2, 3))
        self.assertEqual(last(*setup, (NEXT, 0, 0)), [1, 3])
        self.assertEqual(last(*setup, (PUT, 0, 3), (NEXT, 0, 0)), [0, 3])
        self.assertEqual(last(*setup, (PUT, 0, 4), (NEXT, 0, 70)), [1, 73])

    def test_one_that_is_on_does_not_count_till_it_begins_again(self):
        self.assertEqual(last((MESSAGE, 64, 64, 0, 0, 1), (PUT, 0, 0), (NEXT, 0, 1)), [0, 64])

    def test_buses(self):
        setup = (TEN, OTHER_BUS, BOTH, (PUT, 0, 1), (PUT, 1, 2), (PUT, 2, 5))
        self.assertEqual(last(*setup, (NEXT, 0, 0)), [0, 1])
        self.assertEqual(last(*setup, (NEXT, 1, 0)), [1, 2])
        self.assertEqual(last(*setup, (NEXT, 0, 2)), [2, 5])
        self.assertEqual(last(*setup, (NEXT, 1, 3)), [2, 5])

    def test_none(self):
        self.assertEqual(last((NEXT, 0, 0)), [-6])
        self.assertEqual(last((NEXT, 1, BIG)), [-6])
        self.assertEqual(last(TEN, (NEXT, 0, 0)), [-6])
        self.assertEqual(last(TEN, (PUT, 0, 3), (UNPUT, 0), (NEXT, 0, 0)), [-6])
        self.assertEqual(last(TEN, (PUT, 0, 3), (NEXT, 1, 0)), [-6])
        self.assertEqual(last(OTHER_BUS, (PUT, 0, 3), (NEXT, 0, 0)), [-6])

    def test_not_put_is_passed_over(self):
        self.assertEqual(last(TEN, TEN, (PUT, 1, 5), (NEXT, 0, 0)), [1, 5])

    def test_first_refusal_in_order(self):
        # Nothing is put, and the bus or the time is out of range.
        self.assertEqual(last(TEN, (NEXT, 2, 0)), [-1])
        self.assertEqual(last(TEN, (NEXT, 0, -1)), [-1])
