"""What the tests share: asking the program, and a slow model that goes by the document's words alone.

The model looks at times one by one where the program reckons with remainders.
"""

from fractions import Fraction
from itertools import permutations
from math import lcm

from slotround.desk import Desk, answer_calls, answers

BIG = 1000000000000000000

MESSAGE, DEMAND, PUT, UNPUT, CHECK, SEARCH, COUNT, BLAME, KEEP = range(9)
STEPS, ROOM, AT, NEXT, LOAD, FREE, WAIT, TABLE, STATE = range(9, 18)


def flat(calls):
    return [number for call in calls for number in call]


def split(given):
    """The answers, one list each, out of the one list that is given back."""
    rows = []
    start = 0
    while start < len(given):
        behind = start + 1 + given[start]
        rows.append(given[start + 1:behind])
        start = behind
    return rows


def ask(*calls):
    """The answers to the calls, each of which is told as a tuple."""
    rows = split(answers(flat(calls)))
    if len(rows) != len(calls):
        raise AssertionError(f"{len(rows)} answers to {len(calls)} calls")
    return rows


def last(*calls):
    return ask(*calls)[-1]


def desk_after(*calls):
    desk = Desk()
    answer_calls(desk, flat(calls))
    return desk


def snapshot(desk):
    """All that a desk holds, to be compared."""
    messages = [(m.period, m.length, m.earliest, m.latest, m.buses) for m in desk.messages]
    demands = [(d.kind, d.first, d.second, d.gap) for d in desk.demands]
    kept = None if desk.kept is None else list(desk.kept)
    return messages, demands, list(desk.table), kept


def as_row(numbers):
    return [len(numbers), *numbers]


class Slow:
    """A model of messages (p, length, earliest, latest, buses) and demands (kind, a, b, gap)."""

    def __init__(self, messages, demands):
        self.messages = messages
        self.demands = demands
        self.known = {}

    def times_on(self, number, beginning, around):
        period, length = self.messages[number][:2]
        return {
            (start + slot) % around
            for start in range(beginning, beginning + around, period)
            for slot in range(length)
        }

    def on_at_once(self, one, x, other, y):
        around = lcm(self.messages[one][0], self.messages[other][0])
        return bool(self.times_on(one, x, around) & self.times_on(other, y, around))

    def begins_too_soon(self, one, x, other, y, gap):
        """Whether other begins at some end of one or less than gap slots after it."""
        period, length = self.messages[one][:2]
        other_period = self.messages[other][0]
        around = lcm(period, other_period)
        for end in range(x + length, x + length + around, period):
            for time in range(end, end + gap):
                if (time - y) % other_period == 0:
                    return True
        return False

    def collide(self, one, x, other, y):
        key = (one, x, other, y)
        if key not in self.known:
            shared = self.messages[one][4] & self.messages[other][4]
            self.known[key] = bool(shared) and self.on_at_once(one, x, other, y)
        return self.known[key]

    def met(self, place, table):
        kind, a, b, gap = self.demands[place]
        x, y = table[a], table[b]
        if x == -1 or y == -1:
            return True
        if kind == 0:
            return x + self.messages[a][1] + gap <= y
        key = (place, x, y)
        if key not in self.known:
            self.known[key] = not (
                self.on_at_once(a, x, b, y)
                or self.begins_too_soon(a, x, b, y, gap)
                or self.begins_too_soon(b, y, a, x, gap)
            )
        return self.known[key]

    def wrong(self, table):
        n = len(table)
        rows = [[1, m, m] for m in range(n) if table[m] == -1]
        for i in range(n):
            for j in range(i + 1, n):
                if -1 not in (table[i], table[j]) and self.collide(i, table[i], j, table[j]):
                    rows.append([2, i, j])
        return rows + [[3, d, d] for d in range(len(self.demands)) if not self.met(d, table)]

    def check(self, table):
        rows = self.wrong(table)
        return [len(rows)] + flat(rows)

    def may_choose(self, chosen, x):
        k = len(chosen)
        if any(self.collide(i, chosen[i], k, x) for i in range(k)):
            return False
        table = chosen + [x]
        among = [d for d in range(len(self.demands)) if max(self.demands[d][1:3]) <= k]
        return all(self.met(d, table) for d in among)

    def walk(self, n, budget, counting):
        """How the search or the counting ends, with what, and how much of the budget is used."""
        chosen, used, tables = [], 0, 0
        x = self.messages[0][2] if n else 0
        while True:
            k = len(chosen)
            if k == n and not counting:
                return "found", chosen, used
            if used == budget:
                return "spent", None, used
            used += 1
            if k == n:
                tables += 1
                if n == 0:
                    return "none", tables, used
                x = chosen.pop() + 1
            elif x > self.messages[k][3]:
                if k == 0:
                    return "none", tables, used
                x = chosen.pop() + 1
            elif self.may_choose(chosen, x):
                chosen.append(x)
                if k + 1 < n:
                    x = self.messages[k + 1][2]
            else:
                x += 1

    def search(self, budget):
        how, found, used = self.walk(len(self.messages), budget, False)
        return {"found": [len(found or [])] + (found or []), "spent": [-10], "none": [-6]}[how]

    def count(self, budget):
        how, tables, used = self.walk(len(self.messages), budget, True)
        return [-10] if how == "spent" else [tables]

    def blame(self, budget):
        for n in range(1, len(self.messages) + 1):
            how = self.walk(n, budget, False)[0]
            if how != "found":
                return [-10] if how == "spent" else [n]
        return [0]

    def steps(self, kept, table):
        """The answer with the table kept, which is None if none is: all rows are tried, the smaller first."""
        if kept is None:
            return [-7]
        if self.wrong(kept) or self.wrong(table):
            return [-11]
        moving = [m for m in range(len(table)) if kept[m] != table[m]]
        for row in permutations(moving):
            if self.all_good(kept, table, row):
                return as_row(row)
        return [-6]

    def all_good(self, kept, table, row):
        now = list(kept)
        for m in row:
            now[m] = table[m]
            if self.wrong(now):
                return False
        return True

    def room(self, table, m):
        earliest, latest = self.messages[m][2:4]
        return as_row([x for x in range(earliest, latest + 1) if self.fits(table, m, x)])

    def fits(self, table, m, x):
        now = list(table)
        now[m] = x
        for other in range(len(table)):
            if other != m and now[other] != -1 and self.collide(m, x, other, now[other]):
                return False
        return all(self.met(d, now) for d in range(len(self.demands)) if m in self.demands[d][1:3])

    def put_on(self, table, bus):
        return [m for m in range(len(table)) if table[m] != -1 and self.messages[m][4] in ((1, 3), (2, 3))[bus]]

    def begins(self, table, m, time):
        return (time - table[m]) % self.messages[m][0] == 0

    def all_at(self, table, bus, time):
        """All that are on the bus at the time: they began then or less than their length before."""
        return [
            m for m in self.put_on(table, bus)
            if any(self.begins(table, m, time - back) for back in range(self.messages[m][1]))
        ]

    def at(self, table, bus, time):
        found = self.all_at(table, bus, time)
        return [1, found[0]] if found else [0]

    def next(self, table, bus, time):
        numbers = self.put_on(table, bus)
        if not numbers:
            return [-6]
        while True:
            for m in numbers:
                if self.begins(table, m, time):
                    return [m, time]
            time += 1

    def load(self, bus):
        going = [m for m in self.messages if m[4] in ((1, 3), (2, 3))[bus]]
        share = sum((Fraction(m[1], m[0]) for m in going), Fraction(0))
        return [share.numerator, share.denominator]

    def round(self):
        return lcm(*[m[0] for m in self.messages])

    def free(self, table, bus):
        around = self.round()
        if around > 5000:
            return [-12]
        free = [not self.all_at(table, bus, time) for time in range(around)]
        longest = 0
        for start in range(around):
            run = 0
            while run < around and free[(start + run) % around]:
                run += 1
            longest = max(longest, run)
            if longest == around:
                break
        return [sum(free), around, longest]

    def wait(self, table, a, b):
        if -1 in (table[a], table[b]):
            return [-7]
        longest = 0
        period, length = self.messages[a][:2]
        around = lcm(period, self.messages[b][0])
        for end in range(table[a] + length, table[a] + length + around, period):
            waited = 0
            while not self.begins(table, b, end + waited):
                waited += 1
            longest = max(longest, waited)
        return [longest]

    def state(self, table, kept):
        rows = [[len(self.messages)], *self.messages, [len(self.demands)], *self.demands]
        return flat(rows) + as_row(table) + as_row(kept or [])
