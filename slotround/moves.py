"""Where a message may begin beside the others, and the order in which messages may be moved."""

from slotround.rules import NOT_PUT, demands_between, lead_fits


# The beginnings at which the message collides with none of the others that are put and meets its demands.
def room_of(messages, demands, table, number):
    room = list(range(messages[number].earliest, messages[number].latest + 1))
    for other in range(len(table)):
        if other != number and table[other] != NOT_PUT:
            between = demands_between(demands, number, other)
            room = [x for x in room if lead_fits(messages, between, number, other, table[other] - x)]
    return room


def moving_messages(start, goal):
    return [number for number in range(len(start)) if start[number] != goal[number]]


# The messages that must be moved ahead of this one: where start has them, they bar it from where goal has it.
def barring_messages(messages, demands, start, goal, number):
    barring = []
    for other in range(len(start)):
        if other != number:
            between = demands_between(demands, number, other)
            if not lead_fits(messages, between, number, other, start[other] - goal[number]):
                barring.append(other)
    return barring


# The first message of the waiting ones that none of them bars, or None.
def first_unbarred(waiting, barring):
    for number in waiting:
        if not any([other in waiting for other in barring[number]]):
            return number
    return None


# The smallest row of moves from start to goal, both good, by good tables alone, or None.
# All that can be wrong is between two messages, and two that are both moved, or both not yet, go together as
# in goal or start. So a message only waits for those that bar it; a move bars no other, and the smallest that
# may be moved can be taken at once.
def move_order(messages, demands, start, goal):
    waiting = moving_messages(start, goal)
    barring = [barring_messages(messages, demands, start, goal, number) for number in range(len(start))]
    order = []
    while len(waiting) > 0:
        number = first_unbarred(waiting, barring)
        if number is None:
            return None
        order.append(number)
        waiting.remove(number)
    return order
