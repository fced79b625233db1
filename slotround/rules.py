"""Messages, demands, and what is wrong with a table of beginnings."""

NOT_PUT = -1

FAULT_NOT_PUT = 1
FAULT_COLLIDE = 2
FAULT_DEMAND = 3


# What comes once in each of its periods; buses is 1 for bus 0, 2 for bus 1, 3 for both.
class Message:
    def __init__(self, period, length, earliest, latest, buses):
        self.period = period
        self.length = length
        self.earliest = earliest
        self.latest = latest
        self.buses = buses


# What is asked between two messages, which are told by their numbers.
class Demand:
    def __init__(self, kind, first, second, gap):
        self.kind = kind
        self.first = first
        self.second = second
        self.gap = gap


# The greatest common divisor of two whole numbers, of which one may be 0.
def common_divisor(one, other):
    while other > 0:
        rest = one % other
        one = other
        other = rest
    return one


# Whether the two are never on at once, nor does one begin within gap slots from the other's end on.
# lead is the beginning of second less that of first. It alone matters: over all
# rounds the beginnings differ by lead and every multiple of the common divisor.
def keep_apart(first, second, lead, gap):
    divisor = common_divisor(first.period, second.period)
    return first.length + gap <= lead % divisor and second.length + gap <= (-lead) % divisor


# Whether the two share a bus and are on it at once at some time.
def collide(first, second, lead):
    return (first.buses & second.buses) != 0 and not keep_apart(first, second, lead, 0)


# Whether the demand is met where its second message begins lead slots behind its first.
def is_met(demand, messages, lead):
    first = messages[demand.first]
    second = messages[demand.second]
    if demand.kind == 0:
        return first.length + demand.gap <= lead
    return keep_apart(first, second, lead, demand.gap)


# The demands between two messages, whichever of them is named first.
def demands_between(demands, one, other):
    found = []
    for demand in demands:
        if (demand.first, demand.second) in ((one, other), (other, one)):
            found.append(demand)
    return found


# Whether the message other may begin lead slots behind the message one; between is the demands between them.
def lead_fits(messages, between, one, other, lead):
    if collide(messages[one], messages[other], lead):
        return False
    for demand in between:
        turned = lead if demand.first == one else -lead
        if not is_met(demand, messages, turned):
            return False
    return True


def both_put(table, one, other):
    return table[one] != NOT_PUT and table[other] != NOT_PUT


def missing_messages(table):
    return [(FAULT_NOT_PUT, number, number) for number in range(len(table)) if table[number] == NOT_PUT]


def colliding_pairs(messages, table):
    pairs = []
    for early in range(len(table)):
        for late in range(early + 1, len(table)):
            lead = table[late] - table[early]
            if both_put(table, early, late) and collide(messages[early], messages[late], lead):
                pairs.append((FAULT_COLLIDE, early, late))
    return pairs


def unmet_demands(messages, demands, table):
    unmet = []
    for place, demand in enumerate(demands):
        lead = table[demand.second] - table[demand.first]
        if both_put(table, demand.first, demand.second) and not is_met(demand, messages, lead):
            unmet.append((FAULT_DEMAND, place, place))
    return unmet


# All that is wrong with the table, each by its three numbers, in the order told.
def table_faults(messages, demands, table):
    return missing_messages(table) + colliding_pairs(messages, table) + unmet_demands(messages, demands, table)
