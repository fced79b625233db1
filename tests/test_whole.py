"""What the document promises over the whole program: what changes nothing, and the three sentences under "In all"."""

import random
import unittest
from itertools import product

from tests.helper import (
    AT, BIG, BLAME, CHECK, COUNT, DEMAND, FREE, KEEP, LOAD, MESSAGE, NEXT, PUT, ROOM, SEARCH, STATE, STEPS, TABLE,
    UNPUT, WAIT, Slow, ask, desk_after, last, snapshot,
)
from tests.test_model import any_setup, roomy_setup, setup_calls

TEN = (MESSAGE, 10, 2, 0, 8, 1)
OTHER_BUS = (MESSAGE, 10, 2, 0, 8, 2)
FIVE = (MESSAGE, 5, 1, 0, 4, 3)
LONG_ROUND = ((MESSAGE, 64, 1, 0, 63, 1), (MESSAGE, 63, 1, 0, 62, 2), (MESSAGE, 61, 1, 0, 60, 3))

EMPTY = ()
NOT_PUT = (TEN, OTHER_BUS, FIVE, (DEMAND, 1, 0, 1, 1))
SOME_PUT = NOT_PUT + ((PUT, 0, 4), (KEEP,), (PUT, 1, 4), (PUT, 0, 5))
GOOD = NOT_PUT + ((PUT, 0, 1), (PUT, 1, 6), (PUT, 2, 4), (KEEP,), (PUT, 0, 2))
SWAPPED = (TEN, TEN, (PUT, 0, 0), (PUT, 1, 2), (KEEP,), (PUT, 0, 2), (PUT, 1, 0))
STUCK = ((MESSAGE, 1, 1, 0, 0, 1),) * 2 + ((PUT, 1, 0), (KEEP,), (PUT, 0, 0))
FULL = (TEN,) * 8 + ((DEMAND, 1, 0, 1, 0),) * 16 + ((PUT, 7, 3), (KEEP,))
DESKS = (EMPTY, NOT_PUT, SOME_PUT, GOOD, SWAPPED, STUCK, FULL, LONG_ROUND)

QUESTIONS = (
    (CHECK,), (COUNT, 1), (COUNT, 20000), (COUNT, 0), (BLAME, 1), (BLAME, 20000), (BLAME, 20001),
    (STEPS,), (ROOM, 0), (ROOM, 1), (ROOM, 7), (ROOM, -1), (AT, 0, 0), (AT, 1, 5), (AT, 0, BIG), (AT, 2, 0),
    (NEXT, 0, 0), (NEXT, 1, BIG), (NEXT, 0, -1), (LOAD, 0), (LOAD, 1), (LOAD, 2), (FREE, 0), (FREE, 1), (FREE, -1),
    (WAIT, 0, 0), (WAIT, 0, 1), (WAIT, 1, 0), (WAIT, 0, 8), (TABLE,), (STATE,),
)

# Each refusal of each call.
REFUSALS = (
    (EMPTY, (MESSAGE, 0, 1, 0, 0, 1), -1),
    (GOOD, (MESSAGE, 65, 1, 0, 0, 1), -1),
    (GOOD, (MESSAGE, 10, 1, 5, 4, 1), -5),
    (GOOD, (MESSAGE, 10, 4, 0, 7, 1), -5),
    (FULL, TEN, -8),
    (GOOD, (DEMAND, 2, 0, 1, 0), -1),
    (GOOD, (DEMAND, 1, 0, 1, 65), -1),
    (GOOD, (DEMAND, 1, 0, 3, 0), -4),
    (GOOD, (DEMAND, 1, 1, 1, 0), -5),
    (GOOD, (DEMAND, 0, 0, 2, 0), -9),
    (FULL, (DEMAND, 1, 0, 1, 0), -8),
    (GOOD, (PUT, 0, 64), -1),
    (GOOD, (PUT, 3, 0), -4),
    (GOOD, (PUT, 0, 9), -5),
    (GOOD, (UNPUT, -1), -4),
    (SOME_PUT, (UNPUT, 2), -7),
    (GOOD, (SEARCH, 0), -1),
    (GOOD, (SEARCH, 1), -10),
    (STUCK, (SEARCH, 20000), -6),
    (GOOD, (COUNT, 20001), -1),
    (GOOD, (COUNT, 1), -10),
    (GOOD, (BLAME, 0), -1),
    (GOOD, (BLAME, 1), -10),
    (NOT_PUT, (STEPS,), -7),
    (SOME_PUT, (STEPS,), -11),
    (SWAPPED, (STEPS,), -6),
    (GOOD, (ROOM, 3), -4),
    (EMPTY, (AT, 2, 0), -1),
    (GOOD, (AT, 0, -1), -1),
    (GOOD, (NEXT, -1, 0), -1),
    (NOT_PUT, (NEXT, 0, 0), -6),
    (GOOD, (LOAD, 2), -1),
    (GOOD, (FREE, 2), -1),
    (LONG_ROUND, (FREE, 0), -12),
    (GOOD, (WAIT, 0, 3), -4),
    (SOME_PUT, (WAIT, 0, 2), -7),
)


class ChangesNothingTest(unittest.TestCase):
    def assert_changes_nothing(self, before, call):
        rows = ask(*before, (STATE,), call, (STATE,), call, (STATE,))
        state, answer = rows[-5], rows[-4]
        self.assertEqual(rows[-3:], [state, answer, state])
        self.assertEqual(snapshot(desk_after(*before, call)), snapshot(desk_after(*before)))

    def test_calls_that_only_ask(self):
        for before in DESKS:
            for call in QUESTIONS:
                with self.subTest(before=before, call=call):
                    self.assert_changes_nothing(before, call)

    def test_what_is_asked_does_not_sway_what_is_asked_next(self):
        for before in DESKS:
            with self.subTest(before=before):
                rows = ask(*before, *QUESTIONS)[len(before):]
                self.assertEqual(rows, [last(*before, call) for call in QUESTIONS])
                turned = ask(*before, *QUESTIONS[::-1])[len(before):]
                self.assertEqual(rows, turned[::-1])

    def test_refusals(self):
        for before, call, refusal in REFUSALS:
            with self.subTest(before=before, call=call):
                self.assertEqual(last(*before, call), [refusal])
                self.assert_changes_nothing(before, call)

    def test_calls_that_change_do_so_in_the_state(self):
        for before, call in (
            (EMPTY, TEN),
            (NOT_PUT, (DEMAND, 0, 0, 1, 0)),
            (NOT_PUT, (PUT, 0, 0)),
            (SOME_PUT, (UNPUT, 0)),
            (GOOD, (SEARCH, 20000)),
            (GOOD, (KEEP,)),
        ):
            with self.subTest(before=before, call=call):
                rows = ask(*before, (STATE,), call, (STATE,))
                self.assertNotEqual(rows[-1], rows[-3])


def found_tables(seed, turns):
    """Messages, demands and a good table that the search found, again and again."""
    source = random.Random(seed)
    for turn in range(turns):
        make = source.choice((any_setup, roomy_setup, roomy_setup))
        messages, demands = make(source, source.choice((2, 63)), 6, source.choice((0, 3)))
        row = last(*setup_calls(messages, demands), (SEARCH, 20000))
        if row[0] >= 0:
            yield messages, demands, row[1:]


class InAllTest(unittest.TestCase):
    def test_with_a_good_table_no_two_are_on_a_bus_at_once(self):
        tables = 0
        for messages, demands, table in found_tables(11, 60):
            tables += len(messages) > 1
            slow = Slow(messages, demands)
            around = slow.round()
            for bus in (0, 1):
                for time in range(min(around, 600)):
                    self.assertLessEqual(len(slow.all_at(table, bus, time)), 1, (messages, demands, table, bus, time))
        self.assertGreater(tables, 15)

    def test_with_a_good_table_nobody_is_behind_the_one_told_by_at(self):
        # Were two on at once, the one behind would be told when the first is taken off.
        for messages, demands, table in found_tables(12, 40):
            setup = [*setup_calls(messages, demands), (SEARCH, 20000)]
            for bus, time in ((0, 0), (1, 0), (0, BIG), (1, BIG), (0, BIG - 17), (1, 12345678901234567)):
                row = last(*setup, (AT, bus, time))
                if row != [0]:
                    with self.subTest(messages=messages, demands=demands, bus=bus, time=time):
                        self.assertEqual(last(*setup, (UNPUT, row[1]), (AT, bus, time)), [0])

    def test_collision_far_off_is_no_good_table(self):
        setup = ((MESSAGE, 63, 1, 0, 62, 1), (MESSAGE, 64, 1, 0, 63, 1), (PUT, 0, 62), (PUT, 1, 0))
        self.assertEqual(last(*setup, (CHECK,)), [1, 2, 0, 1])
        # They meet once in a round of 63 * 64.
        meeting = [time for time in range(62, 63 * 64, 63) if time % 64 == 0]
        self.assertEqual(len(meeting), 1)
        far = meeting[0] + 63 * 64 * 1000000000000
        self.assertEqual(last(*setup, (AT, 0, far)), [1, 0])
        self.assertEqual(last(*setup, (UNPUT, 0), (AT, 0, far)), [1, 1])

    def test_search_finds_the_first_good_table_just_if_there_is_one(self):
        source = random.Random(13)
        seen = set()
        for turn in range(120):
            messages, demands = any_setup(source, 3, 4, 6)
            slow = Slow(messages, demands)
            windows = [range(m[2], m[3] + 1) for m in messages]
            first = next((list(table) for table in product(*windows) if not slow.wrong(table)), None)
            seen.add((len(messages), first is None))
            with self.subTest(messages=messages, demands=demands):
                rows = ask(*setup_calls(messages, demands), (SEARCH, 20000), (CHECK,), (TABLE,))
                if first is None:
                    self.assertEqual(rows[-3], [-6])
                else:
                    self.assertEqual(rows[-3:], [[len(first), *first], [0], [len(first), *first]])
        self.assertLessEqual({(0, False), (1, False), (2, True), (2, False), (4, True), (4, False)}, seen)

    def test_free_slots_and_those_taken_are_the_round(self):
        rounds = 0
        for messages, demands, table in found_tables(14, 120):
            for bus in (0, 1):
                rows = ask(*setup_calls(messages, demands), (SEARCH, 20000), (FREE, bus), (LOAD, bus))
                if rows[-2] == [-12]:
                    continue
                free, around, longest = rows[-2]
                taken, slots = rows[-1]
                rounds += taken > 0
                with self.subTest(messages=messages, demands=demands, bus=bus):
                    self.assertEqual(free * slots + taken * around, around * slots)
                    self.assertLessEqual(longest, free)
        self.assertGreater(rounds, 40)

    def test_free_slots_and_those_taken_by_at_are_the_round(self):
        setup = (*GOOD, (SEARCH, 20000))
        for bus in (0, 1):
            free, around, longest = last(*setup, (FREE, bus))
            rows = ask(*setup, *[(AT, bus, time) for time in range(around)])[len(setup):]
            self.assertEqual(rows.count([0]), free)
            self.assertEqual(last(*setup, (LOAD, bus))[0] * around // last(*setup, (LOAD, bus))[1], around - free)
