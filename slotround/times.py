"""Who is on a bus at a time, who is next, how full the buses are, and how long one waits."""

from slotround.rules import NOT_PUT, common_divisor


def goes_on(message, bus):
    return ((message.buses >> bus) & 1) == 1


# The numbers of the messages that are put and go on the bus, the smaller first.
def put_on_bus(messages, table, bus):
    numbers = []
    for number, message in enumerate(messages):
        if table[number] != NOT_PUT and goes_on(message, bus):
            numbers.append(number)
    return numbers


# The smallest number of a message that is on the bus at the time, or None.
def message_at(messages, table, bus, time):
    for number in put_on_bus(messages, table, bus):
        message = messages[number]
        if (time - table[number]) % message.period < message.length:
            return number
    return None


# The message that begins first on the bus at the time or after, and when it does; None if nothing is put there.
def next_message(messages, table, bus, time):
    coming = []
    for number in put_on_bus(messages, table, bus):
        ahead = (table[number] - time) % messages[number].period
        # With the time in front, the least of the pairs is the smallest message of those that begin first.
        coming.append((time + ahead, number))
    if len(coming) == 0:
        return None
    first = min(coming)
    return [first[1], first[0]]


# The least common multiple of the messages' periods, 1 if there are none.
def round_length(messages):
    length = 1
    for message in messages:
        length = length // common_divisor(length, message.period) * message.period
    return length


# The share of all slots that the messages on the bus take, as a fraction in lowest terms.
def bus_load(messages, bus):
    going = [message for message in messages if goes_on(message, bus)]
    slots = round_length(going)
    taken = sum([slots // message.period * message.length for message in going])
    divisor = common_divisor(taken, slots)
    return [taken // divisor, slots // divisor]


# Of each slot of the round from time 0 whether somebody is on the bus.
def taken_slots(messages, table, bus):
    slots = round_length(messages)
    taken = [False] * slots
    for number in put_on_bus(messages, table, bus):
        message = messages[number]
        # A message ends within its period, and the round is whole periods: none goes over the round's end.
        for beginning in range(table[number], slots, message.period):
            for slot in range(beginning, beginning + message.length):
                taken[slot] = True
    return taken


# The longest run of free slots, where the round's end and its start are beside each other.
def longest_free_run(taken):
    if True not in taken:
        return len(taken)
    # From a taken slot on no run goes over the end.
    turn = taken.index(True)
    longest = 0
    run = 0
    for is_taken in taken[turn:] + taken[:turn]:
        run = 0 if is_taken else run + 1
        longest = max(longest, run)
    return longest


# The longest from an end of the message ending to the next beginning of the message coming.
# lead is the beginning of coming less that of ending. Over all ends the wait is each number below coming's
# period that leaves the same remainder by the common divisor of both periods; this is the greatest of them.
def longest_wait(ending, coming, lead):
    divisor = common_divisor(ending.period, coming.period)
    return coming.period - divisor + (lead - ending.length) % divisor
