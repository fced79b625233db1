"""The walk through the beginnings, paid step by step from a budget, that search and count share."""

from slotround.rules import collide, is_met

# Two beginnings, each from 0 to 63, differ by at least -63; a bit's place can't be below 0.
LEAD_SHIFT = 63


def demands_between(demands, one, other):
    """The demands between two messages, whichever of them is named first."""
    found = []
    for demand in demands:
        if (demand.first, demand.second) in ((one, other), (other, one)):
            found.append(demand)
    return found


def lead_fits(messages, between, early, late, lead):
    """Whether the message late may begin lead slots behind the message early."""
    if collide(messages[early], messages[late], lead):
        return False
    for demand in between:
        turned = lead if demand.first == early else -lead
        if not is_met(demand, messages, turned):
            return False
    return True


def pair_leads(messages, demands, early, late):
    """The leads of late behind early that fit, as bits: the lead d is the bit d + LEAD_SHIFT."""
    between = demands_between(demands, early, late)
    least = messages[late].earliest - messages[early].latest
    greatest = messages[late].latest - messages[early].earliest
    bits = 0
    for lead in range(least, greatest + 1):
        if lead_fits(messages, between, early, late, lead):
            bits = bits | (1 << (lead + LEAD_SHIFT))
    return bits


def fitting_leads(messages, demands):
    """Of each message, for each message before it, the leads that fit.

    A walk asks the same few leads over and over, so they are worked out once ahead of it.
    """
    rows = []
    for late in range(len(messages)):
        rows.append([pair_leads(messages, demands, early, late) for early in range(late)])
    return rows


class Walk:
    """A walk for the first size messages; leads is what fitting_leads tells of them."""

    def __init__(self, messages, leads, size, budget):
        self.messages = messages
        self.leads = leads
        self.size = size
        self.budget = budget
        self.chosen = []
        self.looked = 0
        self.rooms = [0] * size
        self.tables = 0
        self.ended = False
        self.enter_message()

    def is_full(self):
        return len(self.chosen) == self.size

    def enter_message(self):
        """Look at the earliest beginning of the message behind those chosen, if there is one."""
        if self.is_full():
            return
        number = len(self.chosen)
        message = self.messages[number]
        self.looked = message.earliest
        # What fits stays as it is till one of the beginnings chosen before is dropped.
        room = (1 << (message.latest + 1)) - 1
        for early, beginning in enumerate(self.chosen):
            room = room & (self.leads[number][early] >> (LEAD_SHIFT - beginning))
        self.rooms[number] = room

    def go_back(self):
        """Drop the beginning chosen last and look at the one behind it; with none chosen the walk ends."""
        if len(self.chosen) == 0:
            self.ended = True
        else:
            self.looked = self.chosen.pop() + 1

    def take_step(self):
        """Use one of the budget; where all beginnings are chosen, that counts the table and goes on."""
        self.budget -= 1
        number = len(self.chosen)
        if number == self.size:
            self.tables += 1
            self.go_back()
        elif self.looked > self.messages[number].latest:
            self.go_back()
        elif (self.rooms[number] >> self.looked) & 1 == 1:
            self.chosen.append(self.looked)
            self.enter_message()
        else:
            self.looked += 1


def search_table(messages, leads, size, budget):
    """Walk to the first table: it is full if one is found, ended if there is none, else spent."""
    walk = Walk(messages, leads, size, budget)
    while not walk.is_full() and not walk.ended and walk.budget > 0:
        walk.take_step()
    return walk


def count_tables(messages, leads, size, budget):
    """Walk through all tables: ended if they are all counted, else spent."""
    walk = Walk(messages, leads, size, budget)
    while not walk.ended and walk.budget > 0:
        walk.take_step()
    return walk
