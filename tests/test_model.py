"""Long rows of calls against the slow model of the document's words."""

import random
import unittest
from itertools import product

from tests.helper import (
    AT, BIG, BLAME, CHECK, COUNT, DEMAND, FREE, KEEP, LOAD, MESSAGE, NEXT, PUT, ROOM, SEARCH, STATE, STEPS, TABLE,
    UNPUT, WAIT, Slow, as_row, ask,
)

PERIODS = (1, 2, 3, 4, 6, 8, 9, 12, 16, 24, 32, 60, 64)


def any_message(source, periods, widest):
    period = source.choice(periods)
    length = source.randint(1, max(1, period // 4))
    earliest = source.randint(0, period - length)
    latest = min(period - length, earliest + source.randint(0, widest))
    return period, length, earliest, latest, source.randint(1, 3)


def any_demand(source, messages):
    a, b = source.sample(range(len(messages)), 2)
    kind = source.randint(0, 1) if messages[a][0] == messages[b][0] else 1
    return kind, a, b, source.choice((0, 0, 0, 1, 1, 2, 3, 5, 8, 64))


def any_setup(source, widest, most_messages, most_demands):
    periods = source.sample(PERIODS, source.randint(1, 3))
    messages = [any_message(source, periods, widest) for m in range(source.randint(0, most_messages))]
    demands = []
    if len(messages) > 1:
        demands = [any_demand(source, messages) for d in range(source.randint(0, most_demands))]
    return messages, demands


def roomy_setup(source, widest, most_messages, most_demands):
    """Short messages whose periods go together, so that good tables aren't rare."""
    periods = source.choice(((8,), (8, 16), (12, 24), (16, 32, 64), (6, 12, 18), (60, 30)))
    messages = []
    for m in range(source.randint(2, most_messages)):
        period, length, earliest, latest, buses = any_message(source, periods, widest)
        messages.append((period, min(length, 2), earliest, latest, buses))
    demands = []
    for d in range(source.randint(0, most_demands)):
        kind, a, b, gap = any_demand(source, messages)
        demands.append((kind, a, b, min(gap, 1)))
    return messages, demands


def setup_calls(messages, demands):
    return [(MESSAGE, *m) for m in messages] + [(DEMAND, *d) for d in demands]


def any_table(source, messages):
    return [source.choice((-1, source.randint(m[2], m[3]), source.randint(m[2], m[3]))) for m in messages]


def put_calls(table):
    return [(PUT, m, x) for m, x in enumerate(table) if x != -1]


def any_question(source, slow, table, kept):
    """A call that changes nothing, and its answer by the model."""
    bus = source.randint(0, 1)
    time = source.choice((0, source.randint(0, 200), BIG - source.randint(0, 200), BIG, source.randint(0, BIG)))
    pairs = [
        ((CHECK,), slow.check(table)),
        ((STEPS,), slow.steps(kept, table)),
        ((AT, bus, time), slow.at(table, bus, time)),
        ((NEXT, bus, time), slow.next(table, bus, time)),
        ((LOAD, bus), slow.load(bus)),
        ((FREE, bus), slow.free(table, bus)),
        ((TABLE,), as_row(table)),
        ((STATE,), slow.state(table, kept)),
    ]
    if table:
        a, b = source.randrange(len(table)), source.randrange(len(table))
        pairs += [((ROOM, a), slow.room(table, a)), ((WAIT, a, b), slow.wait(table, a, b))]
    return source.choice(pairs)


class ModelTest(unittest.TestCase):
    def test_check(self):
        source = random.Random(1)
        for turn in range(300):
            messages, demands = any_setup(source, 63, 8, 16)
            slow = Slow(messages, demands)
            table = any_table(source, messages)
            with self.subTest(messages=messages, demands=demands, table=table):
                rows = ask(*setup_calls(messages, demands), *put_calls(table), (CHECK,))
                self.assertEqual(rows[-1], slow.check(table))

    def test_search_count_and_blame(self):
        source = random.Random(2)
        for turn in range(250):
            messages, demands = any_setup(source, source.choice((2, 5, 63)), 8, source.choice((0, 4, 16)))
            slow = Slow(messages, demands)
            budgets = [1, source.randint(1, 30), source.randint(1, 500), 2000]
            calls = [(place, budget) for budget in budgets for place in (SEARCH, COUNT, BLAME)]
            want = [
                answer
                for budget in budgets
                for answer in (slow.search(budget), slow.count(budget), slow.blame(budget))
            ]
            with self.subTest(messages=messages, demands=demands, budgets=budgets):
                rows = ask(*setup_calls(messages, demands), *calls)
                self.assertEqual(rows[-len(calls):], want)

    def test_budget_just_enough_and_one_too_small(self):
        source = random.Random(3)
        for turn in range(150):
            messages, demands = any_setup(source, 4, 6, 8)
            slow = Slow(messages, demands)
            for place, counting in ((SEARCH, False), (COUNT, True)):
                how, end, used = slow.walk(len(messages), 20000, counting)
                if how == "spent" or used < 2:
                    continue
                with self.subTest(messages=messages, demands=demands, place=place):
                    rows = ask(*setup_calls(messages, demands), (place, used), (place, used - 1))
                    self.assertNotEqual(rows[-2], [-10])
                    self.assertEqual(rows[-1], [-10])

    def test_search_and_count_against_all_tables(self):
        source = random.Random(4)
        for turn in range(150):
            messages, demands = any_setup(source, 3, 4, 6)
            slow = Slow(messages, demands)
            windows = [range(m[2], m[3] + 1) for m in messages]
            good = [list(table) for table in product(*windows) if not slow.wrong(table)]
            with self.subTest(messages=messages, demands=demands):
                rows = ask(*setup_calls(messages, demands), (COUNT, 20000), (BLAME, 20000), (SEARCH, 20000), (CHECK,))
                self.assertEqual(rows[-4], [len(good)])
                self.assertEqual(rows[-3] == [0], good != [])
                if good:
                    self.assertEqual(rows[-2:], [[len(messages)] + good[0], [0]])
                else:
                    self.assertEqual(rows[-2], [-6])

    def test_steps_between_good_tables(self):
        source = random.Random(6)
        seen = set()
        for turn in range(150):
            messages, demands = roomy_setup(source, 3, 5, 3)
            slow = Slow(messages, demands)
            windows = [range(m[2], m[3] + 1) for m in messages]
            good = [list(table) for table in product(*windows) if not slow.wrong(table)]
            for pair in range(min(8, len(good))):
                kept, table = source.choice(good), source.choice(good)
                want = slow.steps(kept, table)
                seen.add((want[0], want[1:] == sorted(want[1:])))
                with self.subTest(messages=messages, demands=demands, kept=kept, table=table):
                    calls = [*setup_calls(messages, demands), *put_calls(kept), (KEEP,), *put_calls(table), (STEPS,)]
                    self.assertEqual(ask(*calls)[-1], want)
        # There were some with none, and some of several where the smaller number isn't the first.
        self.assertLessEqual({(-6, True), (0, True), (1, True), (2, False), (3, True), (3, False), (4, True), (4, False)}, seen)

    def test_room(self):
        source = random.Random(7)
        for turn in range(200):
            messages, demands = any_setup(source, 63, 8, 16)
            slow = Slow(messages, demands)
            table = any_table(source, messages)
            with self.subTest(messages=messages, demands=demands, table=table):
                calls = [(ROOM, m) for m in range(len(messages))]
                rows = ask(*setup_calls(messages, demands), *put_calls(table), (TABLE,), *calls)
                self.assertEqual(rows[len(rows) - len(calls):], [slow.room(table, m) for m in range(len(messages))])

    def test_at_and_next(self):
        source = random.Random(8)
        for turn in range(200):
            messages, demands = any_setup(source, 63, 8, 0)
            slow = Slow(messages, demands)
            table = any_table(source, messages)
            first = source.choice((0, source.randint(0, BIG), BIG - 39))
            times = [(bus, time) for bus in (0, 1) for time in range(first, first + 40)]
            calls = [(place, bus, time) for bus, time in times for place in (AT, NEXT)]
            want = [answer for bus, time in times for answer in (slow.at(table, bus, time), slow.next(table, bus, time))]
            with self.subTest(messages=messages, table=table, first=first):
                rows = ask(*setup_calls(messages, demands), *put_calls(table), *calls)
                self.assertEqual(rows[-len(calls):], want)

    def test_load_free_and_wait(self):
        source = random.Random(9)
        for turn in range(150):
            messages, demands = any_setup(source, 63, 8, 0)
            slow = Slow(messages, demands)
            table = any_table(source, messages)
            numbers = range(len(messages))
            calls = [(place, bus) for bus in (0, 1) for place in (LOAD, FREE)]
            calls += [(WAIT, a, b) for a in numbers for b in numbers]
            want = [answer for bus in (0, 1) for answer in (slow.load(bus), slow.free(table, bus))]
            want += [slow.wait(table, a, b) for a in numbers for b in numbers]
            with self.subTest(messages=messages, table=table):
                rows = ask(*setup_calls(messages, demands), *put_calls(table), *calls)
                self.assertEqual(rows[-len(calls):], want)

    def test_rows_of_changes(self):
        source = random.Random(5)
        for turn in range(60):
            self.go_through_changes(source)

    def go_through_changes(self, source):
        messages, demands, table, calls, want = [], [], [], [], []
        kept = []
        for step in range(60):
            chance = source.random()
            if chance < 0.2 and len(messages) < 8:
                messages.append(any_message(source, (4, 6, 12), 12))
                table.append(-1)
                kept = None
                calls.append((MESSAGE, *messages[-1]))
                want.append([len(messages) - 1])
            elif chance < 0.3 and len(messages) > 1 and len(demands) < 16:
                demands.append(any_demand(source, messages))
                calls.append((DEMAND, *demands[-1]))
                want.append([len(demands) - 1])
            elif chance < 0.6 and messages:
                m = source.randrange(len(messages))
                x = source.randint(0, 12)
                fits = messages[m][2] <= x <= messages[m][3]
                table[m] = x if fits else table[m]
                calls.append((PUT, m, x))
                want.append([0 if fits else -5])
            elif chance < 0.7 and messages:
                m = source.randrange(len(messages))
                calls.append((UNPUT, m))
                want.append([-7 if table[m] == -1 else 0])
                table[m] = -1
            elif chance < 0.75:
                calls.append((SEARCH, 300))
                want.append(Slow(messages, demands).search(300))
                table = want[-1][1:] if want[-1][0] >= 0 else table
            elif chance < 0.8:
                calls.append((KEEP,))
                want.append([0])
                kept = list(table)
            else:
                call, answer = any_question(source, Slow(messages, demands), table, kept)
                calls.append(call)
                want.append(answer)
        with self.subTest(calls=calls):
            self.assertEqual(ask(*calls), want)
