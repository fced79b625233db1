"""The walk through the beginnings, paid step by step from a budget, that search and count share."""

from slotround.rules import demands_between, lead_fits

# Two beginnings, each from 0 to 63, differ by at least -63; a bit's place can't be below 0.
LEAD_SHIFT = 63


# The leads of late behind early that fit, as bits: the lead d is the bit d + LEAD_SHIFT.
def pair_leads(messages, demands, early, late):
    between = demands_between(demands, early, late)
    least = messages[late].earliest - messages[early].latest
    greatest = messages[late].latest - messages[early].earliest
    bits = 0
    for lead in range(least, greatest + 1):
        if lead_fits(messages, between, early, late, lead):
            bits = bits | (1 << (lead + LEAD_SHIFT))
    return bits


# Of each message, for each message before it, the leads that fit.
# A walk asks the same few leads over and over, so they are worked out once ahead of it.
def fitting_leads(messages, demands):
    rows = []
    for late in range(len(messages)):
        rows.append([pair_leads(messages, demands, early, late) for early in range(late)])
    return rows


# A walk for the first size messages; leads is what fitting_leads tells of them.
class Walk:
    def __init__(self, messages, leads, size, budget):
        self.messages = messages
        self.leads = leads
        self.size = size
        self.budget = budget
        self.chosen = []
        self.looked = 0
        self.rooms = [0] * size
        self.tables = 0
        self.ended = False
        self.enter_message()

    def is_full(self):
        return len(self.chosen) == self.size

    # Look at the earliest beginning of the message behind those chosen, if there is one.
    def enter_message(self):
        if self.is_full():
            return
        number = len(self.chosen)
        message = self.messages[number]
        self.looked = message.earliest
        # What fits stays as it is till one of the beginnings chosen before is dropped.
        room = (1 << (message.latest + 1)) - 1
        for early, beginning in enumerate(self.chosen):
            room = room & (self.leads[number][early] >> (LEAD_SHIFT - beginning))
        self.rooms[number] = room

    # Drop the beginning chosen last and look at the one behind it; with none chosen the walk ends.
    def go_back(self):
        if len(self.chosen) == 0:
            self.ended = True
        else:
            self.looked = self.chosen.pop() + 1

    # Use one of the budget; where all beginnings are chosen, that counts the table and goes on.
    def take_step(self):
        self.budget -= 1
        number = len(self.chosen)
        if number == self.size:
            self.tables += 1
            self.go_back()
        elif self.looked > self.messages[number].latest:
            self.go_back()
        elif ((self.rooms[number] >> self.looked) & 1) == 1:
            self.chosen.append(self.looked)
            self.enter_message()
        else:
            self.looked += 1


# Walk to the first table: it is full if one is found, ended if there is none, else spent.
def search_table(messages, leads, size, budget):
    walk = Walk(messages, leads, size, budget)
    while not walk.is_full() and not walk.ended and walk.budget > 0:
        walk.take_step()
    return walk


# Walk through all tables: ended if they are all counted, else spent.
def count_tables(messages, leads, size, budget):
    walk = Walk(messages, leads, size, budget)
    while not walk.ended and walk.budget > 0:
        walk.take_step()
    return walk
