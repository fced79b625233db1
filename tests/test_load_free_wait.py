"""Promises 13, 14 and 15: load, free and wait."""

import unittest

from tests.helper import BIG, FREE, KEEP, LOAD, MESSAGE, PUT, UNPUT, WAIT, desk_after, last, snapshot

TEN = (MESSAGE, 10, 2, 0, 8, 1)
BOTH = (MESSAGE, 10, 2, 0, 8, 3)
OTHER_BUS = (MESSAGE, 10, 2, 0, 8, 2)
ALWAYS_ON = (MESSAGE, 1, 1, 0, 0, 1)


def period(p, buses=1):
    return (MESSAGE, p, 1, 0, p - 1, buses)


class OneBus:
    """What is alike for load and free."""

    place = LOAD

    def test_out_of_range(self):
        for bus in (-1, 2, BIG, -BIG):
            with self.subTest(bus=bus):
                self.assertEqual(last((self.place, bus)), [-1])
                self.assertEqual(last(BOTH, (PUT, 0, 0), (self.place, bus)), [-1])

    def test_changes_nothing(self):
        before = (TEN, OTHER_BUS, (PUT, 0, 4), (KEEP,), (PUT, 0, 3))
        for bus in (0, 1, 2, -1):
            with self.subTest(bus=bus):
                held = snapshot(desk_after(*before))
                self.assertEqual(snapshot(desk_after(*before, (self.place, bus))), held)


class LoadTest(OneBus, unittest.TestCase):
    def test_no_messages(self):
        self.assertEqual(last((LOAD, 0)), [0, 1])
        self.assertEqual(last((LOAD, 1)), [0, 1])

    def test_none_on_that_bus(self):
        self.assertEqual(last(TEN, (LOAD, 1)), [0, 1])
        self.assertEqual(last(OTHER_BUS, (LOAD, 0)), [0, 1])

    def test_lowest_terms(self):
        self.assertEqual(last(TEN, (LOAD, 0)), [1, 5])
        self.assertEqual(last((MESSAGE, 7, 3, 0, 4, 2), (LOAD, 1)), [3, 7])
        self.assertEqual(last((MESSAGE, 64, 48, 0, 0, 3), (LOAD, 1)), [3, 4])

    def test_all_that_go_on_the_bus(self):
        setup = (TEN, (MESSAGE, 4, 1, 0, 3, 3), OTHER_BUS, (MESSAGE, 6, 1, 0, 0, 2))
        self.assertEqual(last(*setup, (LOAD, 0)), [9, 20])
        self.assertEqual(last(*setup, (LOAD, 1)), [37, 60])

    def test_whether_put_or_not(self):
        self.assertEqual(last(TEN, TEN, (LOAD, 0)), [2, 5])
        self.assertEqual(last(TEN, TEN, (PUT, 0, 3), (LOAD, 0)), [2, 5])
        self.assertEqual(last(TEN, TEN, (PUT, 0, 3), (PUT, 1, 3), (LOAD, 0)), [2, 5])

    def test_just_full_and_more_than_full(self):
        self.assertEqual(last(ALWAYS_ON, (LOAD, 0)), [1, 1])
        self.assertEqual(last((MESSAGE, 64, 64, 0, 0, 1), (LOAD, 0)), [1, 1])
        self.assertEqual(last(period(2), period(3), period(6), (LOAD, 0)), [1, 1])
        self.assertEqual(last(*[ALWAYS_ON] * 8, (LOAD, 0)), [8, 1])
        self.assertEqual(last(ALWAYS_ON, TEN, (LOAD, 0)), [6, 5])

    def test_terms_are_lowest_though_the_round_is_more(self):
        # 1/6 + 1/10 + 1/15 = 1/3
        self.assertEqual(last(period(6), period(10), period(15), (LOAD, 0)), [1, 3])

    def test_round_of_any_length(self):
        # 1/61 + 1/59 + 1/53 + 1/47 over the product of these.
        primes = (61, 59, 53, 47)
        slots = 61 * 59 * 53 * 47
        setup = [period(p) for p in primes]
        self.assertEqual(last(*setup, (LOAD, 0)), [sum(slots // p for p in primes), slots])


class FreeTest(OneBus, unittest.TestCase):
    place = FREE

    def test_no_messages(self):
        self.assertEqual(last((FREE, 0)), [1, 1, 1])
        self.assertEqual(last((FREE, 1)), [1, 1, 1])

    def test_nothing_put(self):
        self.assertEqual(last(TEN, (FREE, 0)), [10, 10, 10])
        self.assertEqual(last(TEN, period(4), (FREE, 0)), [20, 20, 20])
        self.assertEqual(last(TEN, (PUT, 0, 3), (UNPUT, 0), (FREE, 0)), [10, 10, 10])

    def test_all_free_on_the_other_bus(self):
        self.assertEqual(last(TEN, (PUT, 0, 3), (FREE, 1)), [10, 10, 10])

    def test_all_taken(self):
        self.assertEqual(last(ALWAYS_ON, (PUT, 0, 0), (FREE, 0)), [0, 1, 0])
        self.assertEqual(last(ALWAYS_ON, period(12, 2), (PUT, 0, 0), (FREE, 0)), [0, 12, 0])
        self.assertEqual(last((MESSAGE, 64, 64, 0, 0, 1), (PUT, 0, 0), (FREE, 0)), [0, 64, 0])

    def test_run_that_goes_round_the_end(self):
        self.assertEqual(last(TEN, (PUT, 0, 3), (FREE, 0)), [8, 10, 8])
        # Free are 0 to 2, 5 and 8 to 9: the run from 8 on goes to 2.
        setup = (TEN, TEN, (PUT, 0, 3), (PUT, 1, 6))
        self.assertEqual(last(*setup, (FREE, 0)), [6, 10, 5])

    def test_run_that_does_not_go_round(self):
        for x, y, longest in ((0, 8, 6), (0, 5, 3), (0, 4, 4), (0, 6, 4), (1, 8, 5), (0, 7, 5)):
            with self.subTest(x=x, y=y):
                self.assertEqual(last(TEN, TEN, (PUT, 0, x), (PUT, 1, y), (FREE, 0)), [6, 10, longest])

    def test_run_at_the_start_and_at_the_end(self):
        self.assertEqual(last(TEN, (PUT, 0, 0), (FREE, 0)), [8, 10, 8])
        self.assertEqual(last(TEN, (PUT, 0, 8), (FREE, 0)), [8, 10, 8])

    def test_unlike_periods(self):
        setup = (period(4), period(6), (PUT, 0, 1), (PUT, 1, 2))
        # Taken are 1, 5, 9 and 2, 8; free are 0, 3, 4, 6, 7, 10, 11, and from 10 on the run goes to 0.
        self.assertEqual(last(*setup, (FREE, 0)), [7, 12, 3])

    def test_slots_of_several_count_once(self):
        self.assertEqual(last(TEN, TEN, (PUT, 0, 3), (PUT, 1, 3), (FREE, 0)), [8, 10, 8])
        self.assertEqual(last(TEN, TEN, (PUT, 0, 3), (PUT, 1, 4), (FREE, 0)), [7, 10, 7])
        # Periods 4 and 6 both at 1: they meet at 1 and 1 + 12.
        self.assertEqual(last(period(4), period(6), (PUT, 0, 1), (PUT, 1, 1), (FREE, 0)), [8, 12, 3])

    def test_buses(self):
        setup = (TEN, OTHER_BUS, BOTH, (PUT, 0, 0), (PUT, 1, 4), (PUT, 2, 6))
        self.assertEqual(last(*setup, (FREE, 0)), [6, 10, 4])
        self.assertEqual(last(*setup, (FREE, 1)), [6, 10, 6])

    def test_round_is_of_all_messages(self):
        # Of those that go on the other bus, and of those that aren't put.
        self.assertEqual(last(TEN, period(7, 2), (PUT, 0, 0), (FREE, 0)), [56, 70, 8])
        self.assertEqual(last(TEN, period(7), (PUT, 0, 0), (FREE, 0)), [56, 70, 8])
        self.assertEqual(last(TEN, period(7), (PUT, 0, 0), (FREE, 1)), [70, 70, 70])

    def test_longest_round_that_is_answered_and_the_shortest_that_is_not(self):
        # Periods are at most 64, so no round is just 5000: 4998 and 5002 are the nearest.
        self.assertEqual(last(period(2), period(49), period(51), (FREE, 0)), [4998, 4998, 4998])
        self.assertEqual(last(period(2), period(41), period(61), (FREE, 0)), [-12])

    def test_long_round_with_messages_put(self):
        setup = (period(2, 2), period(49), period(51, 3), (PUT, 1, 48), (PUT, 2, 0))
        self.assertEqual(last(*setup, (FREE, 0)), [48 * 2 * 50, 4998, 48])
        self.assertEqual(last(*setup, (FREE, 1)), [4998 - 98, 4998, 50])
        setup = (period(64), period(63), (PUT, 0, 63), (PUT, 1, 62))
        self.assertEqual(last(*setup, (FREE, 0))[:2], [63 * 62, 4032])

    def test_round_too_long(self):
        self.assertEqual(last(*[period(64 - m) for m in range(8)], (FREE, 0)), [-12])
        # Whoever makes it long: one on the other bus, and one that isn't put.
        setup = (TEN, (PUT, 0, 0), period(61, 2))
        self.assertEqual(last(*setup, (FREE, 0)), [488, 610, 8])
        self.assertEqual(last(*setup, period(59, 2), (FREE, 0)), [-12])
        self.assertEqual(last(*setup, period(59, 2), (FREE, 1)), [-12])

    def test_first_refusal_in_order(self):
        self.assertEqual(last(period(64), period(63), period(61), (FREE, 2)), [-1])
        self.assertEqual(last(period(64), period(63), period(61), (FREE, -1)), [-1])

    def test_too_long_changes_nothing(self):
        before = (period(64), period(63), period(61), (PUT, 0, 4), (KEEP,), (PUT, 0, 3))
        self.assertEqual(snapshot(desk_after(*before, (FREE, 0))), snapshot(desk_after(*before)))


class WaitTest(unittest.TestCase):
    def wait(self, one, x, other, y):
        return last(one, other, (PUT, 0, x), (PUT, 1, y), (WAIT, 0, 1))

    def test_same_period(self):
        for x, y, waited in ((0, 5, 3), (0, 2, 0), (0, 3, 1), (0, 1, 9), (0, 0, 8), (5, 0, 3), (8, 0, 0), (8, 8, 8)):
            with self.subTest(x=x, y=y):
                self.assertEqual(self.wait(TEN, x, TEN, y), [waited])

    def test_has_a_direction(self):
        setup = (TEN, (MESSAGE, 10, 3, 0, 7, 1), (PUT, 0, 0), (PUT, 1, 4))
        self.assertEqual(last(*setup, (WAIT, 0, 1)), [2])
        self.assertEqual(last(*setup, (WAIT, 1, 0)), [3])

    def test_same_message(self):
        self.assertEqual(last(TEN, (PUT, 0, 3), (WAIT, 0, 0)), [8])
        self.assertEqual(last(ALWAYS_ON, (PUT, 0, 0), (WAIT, 0, 0)), [0])
        self.assertEqual(last((MESSAGE, 64, 64, 0, 0, 1), (PUT, 0, 0), (WAIT, 0, 0)), [0])
        self.assertEqual(last((MESSAGE, 64, 1, 0, 63, 1), (PUT, 0, 63), (WAIT, 0, 0)), [63])

    def test_longest_of_all_ends(self):
        # 0 ends at 1, 5, 9; 1 begins at 3, 9, 15: the waits are 2, 4, 0.
        self.assertEqual(self.wait(period(4), 0, period(6), 3), [4])
        # 0 ends at 1, 5, 9; 1 begins at 2, 8, 14: the waits are 1, 3, 5.
        self.assertEqual(self.wait(period(4), 0, period(6), 2), [5])
        # 0 ends at 1, 7; 1 begins at 2, 6, 10: the waits are 1, 3.
        self.assertEqual(self.wait(period(6), 0, period(4), 2), [3])

    def test_period_of_b_goes_into_that_of_a(self):
        self.assertEqual(self.wait(period(12), 0, period(4), 0), [3])
        self.assertEqual(self.wait(period(12), 0, period(4), 1), [0])

    def test_period_of_a_goes_into_that_of_b(self):
        self.assertEqual(self.wait(period(4), 0, period(12), 1), [8])
        self.assertEqual(self.wait(period(4), 0, period(12), 0), [11])

    def test_no_common_divisor(self):
        for y in (0, 1, 63):
            self.assertEqual(self.wait(period(63), 5, period(64), y), [63])
        self.assertEqual(self.wait(ALWAYS_ON, 0, period(64), 17), [63])
        self.assertEqual(self.wait(period(64), 17, ALWAYS_ON, 0), [0])

    def test_whatever_buses_and_however_bad_the_table(self):
        self.assertEqual(self.wait(TEN, 0, OTHER_BUS, 5), [3])
        self.assertEqual(self.wait(TEN, 0, BOTH, 1), [9])

    def test_no_such_message(self):
        for a, b in ((1, 0), (0, 1), (-1, 0), (0, -1), (BIG, 0), (0, -BIG), (1, 1), (-1, -1)):
            with self.subTest(a=a, b=b):
                self.assertEqual(last(TEN, (PUT, 0, 0), (WAIT, a, b)), [-4])
        self.assertEqual(last((WAIT, 0, 0)), [-4])

    def test_not_put(self):
        setup = (TEN, TEN, (PUT, 0, 0))
        for a, b in ((0, 1), (1, 0), (1, 1)):
            with self.subTest(a=a, b=b):
                self.assertEqual(last(*setup, (WAIT, a, b)), [-7])
        self.assertEqual(last(*setup, (UNPUT, 0), (WAIT, 0, 0)), [-7])

    def test_first_refusal_in_order(self):
        # One isn't put and the other isn't there.
        self.assertEqual(last(TEN, (WAIT, 0, 1)), [-4])
        self.assertEqual(last(TEN, (WAIT, 1, 0)), [-4])
        self.assertEqual(last(TEN, (WAIT, 0, -1)), [-4])

    def test_changes_nothing(self):
        before = (TEN, OTHER_BUS, TEN, (PUT, 0, 4), (PUT, 1, 4), (KEEP,), (PUT, 0, 3))
        for a, b in ((0, 1), (1, 0), (0, 0), (0, 2), (0, 3)):
            with self.subTest(a=a, b=b):
                self.assertEqual(snapshot(desk_after(*before, (WAIT, a, b))), snapshot(desk_after(*before)))
