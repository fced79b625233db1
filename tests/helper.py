"""What the tests share: asking the program, and a slow model that goes by the document's words alone.

The model looks at times one by one where the program reckons with remainders.
"""

from math import lcm

from slotround.desk import Desk, answer_calls, answers

BIG = 1000000000000000000

MESSAGE, DEMAND, PUT, UNPUT, CHECK, SEARCH, COUNT, BLAME, KEEP = range(9)


def flat(calls):
    return [number for call in calls for number in call]


def split(given):
    """The answers, one list each, out of the one list that is given back."""
    rows = []
    start = 0
    while start < len(given):
        behind = start + 1 + given[start]
        rows.append(given[start + 1:behind])
        start = behind
    return rows


def ask(*calls):
    """The answers to the calls, each of which is told as a tuple."""
    rows = split(answers(flat(calls)))
    if len(rows) != len(calls):
        raise AssertionError(f"{len(rows)} answers to {len(calls)} calls")
    return rows


def last(*calls):
    return ask(*calls)[-1]


def desk_after(*calls):
    desk = Desk()
    answer_calls(desk, flat(calls))
    return desk


def snapshot(desk):
    """All that a desk holds, to be compared."""
    messages = [(m.period, m.length, m.earliest, m.latest, m.buses) for m in desk.messages]
    demands = [(d.kind, d.first, d.second, d.gap) for d in desk.demands]
    kept = None if desk.kept is None else list(desk.kept)
    return messages, demands, list(desk.table), kept


class Slow:
    """A model of messages (p, length, earliest, latest, buses) and demands (kind, a, b, gap)."""

    def __init__(self, messages, demands):
        self.messages = messages
        self.demands = demands
        self.known = {}

    def times_on(self, number, beginning, around):
        period, length = self.messages[number][:2]
        return {
            (start + slot) % around
            for start in range(beginning, beginning + around, period)
            for slot in range(length)
        }

    def on_at_once(self, one, x, other, y):
        around = lcm(self.messages[one][0], self.messages[other][0])
        return bool(self.times_on(one, x, around) & self.times_on(other, y, around))

    def begins_too_soon(self, one, x, other, y, gap):
        """Whether other begins at some end of one or less than gap slots after it."""
        period, length = self.messages[one][:2]
        other_period = self.messages[other][0]
        around = lcm(period, other_period)
        for end in range(x + length, x + length + around, period):
            for time in range(end, end + gap):
                if (time - y) % other_period == 0:
                    return True
        return False

    def collide(self, one, x, other, y):
        key = (one, x, other, y)
        if key not in self.known:
            shared = self.messages[one][4] & self.messages[other][4]
            self.known[key] = bool(shared) and self.on_at_once(one, x, other, y)
        return self.known[key]

    def met(self, place, table):
        kind, a, b, gap = self.demands[place]
        x, y = table[a], table[b]
        if x == -1 or y == -1:
            return True
        if kind == 0:
            return x + self.messages[a][1] + gap <= y
        key = (place, x, y)
        if key not in self.known:
            self.known[key] = not (
                self.on_at_once(a, x, b, y)
                or self.begins_too_soon(a, x, b, y, gap)
                or self.begins_too_soon(b, y, a, x, gap)
            )
        return self.known[key]

    def wrong(self, table):
        n = len(table)
        rows = [[1, m, m] for m in range(n) if table[m] == -1]
        for i in range(n):
            for j in range(i + 1, n):
                if -1 not in (table[i], table[j]) and self.collide(i, table[i], j, table[j]):
                    rows.append([2, i, j])
        return rows + [[3, d, d] for d in range(len(self.demands)) if not self.met(d, table)]

    def check(self, table):
        rows = self.wrong(table)
        return [len(rows)] + flat(rows)

    def may_choose(self, chosen, x):
        k = len(chosen)
        if any(self.collide(i, chosen[i], k, x) for i in range(k)):
            return False
        table = chosen + [x]
        among = [d for d in range(len(self.demands)) if max(self.demands[d][1:3]) <= k]
        return all(self.met(d, table) for d in among)

    def walk(self, n, budget, counting):
        """How the search or the counting ends, with what, and how much of the budget is used."""
        chosen, used, tables = [], 0, 0
        x = self.messages[0][2] if n else 0
        while True:
            k = len(chosen)
            if k == n and not counting:
                return "found", chosen, used
            if used == budget:
                return "spent", None, used
            used += 1
            if k == n:
                tables += 1
                if n == 0:
                    return "none", tables, used
                x = chosen.pop() + 1
            elif x > self.messages[k][3]:
                if k == 0:
                    return "none", tables, used
                x = chosen.pop() + 1
            elif self.may_choose(chosen, x):
                chosen.append(x)
                if k + 1 < n:
                    x = self.messages[k + 1][2]
            else:
                x += 1

    def search(self, budget):
        how, found, used = self.walk(len(self.messages), budget, False)
        return {"found": [len(found or [])] + (found or []), "spent": [-10], "none": [-6]}[how]

    def count(self, budget):
        how, tables, used = self.walk(len(self.messages), budget, True)
        return [-10] if how == "spent" else [tables]

    def blame(self, budget):
        for n in range(1, len(self.messages) + 1):
            how = self.walk(n, budget, False)[0]
            if how != "found":
                return [-10] if how == "spent" else [n]
        return [0]
