"""The desk: takes the calls on one new set of messages, one behind another, and answers them."""

from slotround.moves import move_order, room_of
from slotround.rules import NOT_PUT, Demand, Message, table_faults
from slotround.times import (
    bus_load, longest_free_run, longest_wait, message_at, next_message, round_length, taken_slots,
)
from slotround.walk import count_tables, fitting_leads, search_table

OUT_OF_RANGE = -1
NO_MESSAGE = -4
NO_FIT = -5
NONE_THERE = -6
NOTHING_PUT = -7
FULL = -8
UNLIKE_PERIODS = -9
SPENT = -10
NOT_GOOD = -11
TOO_LONG = -12

MOST_MESSAGES = 8
MOST_DEMANDS = 16
LONGEST_ROUND = 5000

# The least and the greatest of each number of a call, in its order.
MESSAGE_RANGES = ((1, 64), (1, 64), (0, 63), (0, 63), (1, 3))
KIND_AND_GAP_RANGES = ((0, 1), (0, 64))
BEGINNING_RANGES = ((0, 63),)
BUDGET_RANGES = ((1, 20000),)
BUS_RANGES = ((0, 1),)
BUS_AND_TIME_RANGES = ((0, 1), (0, 1000000000000000000))


# What the calls act on; while there are no messages the empty table counts as kept.
class Desk:
    def __init__(self):
        self.messages = []
        self.demands = []
        self.table = []
        self.kept = []


def in_ranges(numbers, ranges):
    for number, bounds in zip(numbers, ranges):
        if number < bounds[0] or number > bounds[1]:
            return False
    return True


def has_message(desk, number):
    return 0 <= number and number < len(desk.messages)


def is_good(desk, table):
    return len(table_faults(desk.messages, desk.demands, table)) == 0


def as_row(numbers):
    return [len(numbers)] + numbers


def answer_message(desk, numbers):
    if not in_ranges(numbers, MESSAGE_RANGES):
        return [OUT_OF_RANGE]
    message = Message(numbers[0], numbers[1], numbers[2], numbers[3], numbers[4])
    if message.latest < message.earliest or message.latest + message.length > message.period:
        return [NO_FIT]
    if len(desk.messages) == MOST_MESSAGES:
        return [FULL]
    desk.messages.append(message)
    desk.table.append(NOT_PUT)
    desk.kept = None
    return [len(desk.messages) - 1]


def answer_demand(desk, numbers):
    demand = Demand(numbers[0], numbers[1], numbers[2], numbers[3])
    if not in_ranges([demand.kind, demand.gap], KIND_AND_GAP_RANGES):
        return [OUT_OF_RANGE]
    if not has_message(desk, demand.first) or not has_message(desk, demand.second):
        return [NO_MESSAGE]
    if demand.first == demand.second:
        return [NO_FIT]
    if demand.kind == 0 and desk.messages[demand.first].period != desk.messages[demand.second].period:
        return [UNLIKE_PERIODS]
    if len(desk.demands) == MOST_DEMANDS:
        return [FULL]
    desk.demands.append(demand)
    return [len(desk.demands) - 1]


def answer_put(desk, numbers):
    number = numbers[0]
    beginning = numbers[1]
    if not in_ranges([beginning], BEGINNING_RANGES):
        return [OUT_OF_RANGE]
    if not has_message(desk, number):
        return [NO_MESSAGE]
    if beginning < desk.messages[number].earliest or beginning > desk.messages[number].latest:
        return [NO_FIT]
    desk.table[number] = beginning
    return [0]


def answer_unput(desk, numbers):
    number = numbers[0]
    if not has_message(desk, number):
        return [NO_MESSAGE]
    if desk.table[number] == NOT_PUT:
        return [NOTHING_PUT]
    desk.table[number] = NOT_PUT
    return [0]


def answer_check(desk, numbers):
    wrong = table_faults(desk.messages, desk.demands, desk.table)
    answer = [len(wrong)]
    for fault in wrong:
        answer.extend(fault)
    return answer


def answer_search(desk, numbers):
    if not in_ranges(numbers, BUDGET_RANGES):
        return [OUT_OF_RANGE]
    leads = fitting_leads(desk.messages, desk.demands)
    walk = search_table(desk.messages, leads, len(desk.messages), numbers[0])
    if walk.is_full():
        desk.table = list(walk.chosen)
        return as_row(walk.chosen)
    return [NONE_THERE] if walk.ended else [SPENT]


def answer_count(desk, numbers):
    if not in_ranges(numbers, BUDGET_RANGES):
        return [OUT_OF_RANGE]
    leads = fitting_leads(desk.messages, desk.demands)
    walk = count_tables(desk.messages, leads, len(desk.messages), numbers[0])
    return [walk.tables] if walk.ended else [SPENT]


def answer_blame(desk, numbers):
    if not in_ranges(numbers, BUDGET_RANGES):
        return [OUT_OF_RANGE]
    leads = fitting_leads(desk.messages, desk.demands)
    for size in range(1, len(desk.messages) + 1):
        walk = search_table(desk.messages, leads, size, numbers[0])
        if not walk.is_full():
            return [size] if walk.ended else [SPENT]
    return [0]


def answer_keep(desk, numbers):
    desk.kept = list(desk.table)
    return [0]


def answer_steps(desk, numbers):
    if desk.kept is None:
        return [NOTHING_PUT]
    if not is_good(desk, desk.kept) or not is_good(desk, desk.table):
        return [NOT_GOOD]
    order = move_order(desk.messages, desk.demands, desk.kept, desk.table)
    return [NONE_THERE] if order is None else as_row(order)


def answer_room(desk, numbers):
    if not has_message(desk, numbers[0]):
        return [NO_MESSAGE]
    return as_row(room_of(desk.messages, desk.demands, desk.table, numbers[0]))


def answer_at(desk, numbers):
    if not in_ranges(numbers, BUS_AND_TIME_RANGES):
        return [OUT_OF_RANGE]
    number = message_at(desk.messages, desk.table, numbers[0], numbers[1])
    return [0] if number is None else [1, number]


def answer_next(desk, numbers):
    if not in_ranges(numbers, BUS_AND_TIME_RANGES):
        return [OUT_OF_RANGE]
    coming = next_message(desk.messages, desk.table, numbers[0], numbers[1])
    return [NONE_THERE] if coming is None else coming


def answer_load(desk, numbers):
    if not in_ranges(numbers, BUS_RANGES):
        return [OUT_OF_RANGE]
    return bus_load(desk.messages, numbers[0])


def answer_free(desk, numbers):
    if not in_ranges(numbers, BUS_RANGES):
        return [OUT_OF_RANGE]
    if round_length(desk.messages) > LONGEST_ROUND:
        return [TOO_LONG]
    taken = taken_slots(desk.messages, desk.table, numbers[0])
    return [taken.count(False), len(taken), longest_free_run(taken)]


def answer_wait(desk, numbers):
    ending = numbers[0]
    coming = numbers[1]
    if not has_message(desk, ending) or not has_message(desk, coming):
        return [NO_MESSAGE]
    if desk.table[ending] == NOT_PUT or desk.table[coming] == NOT_PUT:
        return [NOTHING_PUT]
    lead = desk.table[coming] - desk.table[ending]
    return [longest_wait(desk.messages[ending], desk.messages[coming], lead)]


def answer_table(desk, numbers):
    return as_row(desk.table)


def answer_state(desk, numbers):
    answer = [len(desk.messages)]
    for message in desk.messages:
        answer.extend([message.period, message.length, message.earliest, message.latest, message.buses])
    answer.append(len(desk.demands))
    for demand in desk.demands:
        answer.extend([demand.kind, demand.first, demand.second, demand.gap])
    kept = [] if desk.kept is None else desk.kept
    return answer + as_row(desk.table) + as_row(kept)


# By the place of a call: what answers it, and how many numbers it has behind its place.
HANDLERS = (
    answer_message,
    answer_demand,
    answer_put,
    answer_unput,
    answer_check,
    answer_search,
    answer_count,
    answer_blame,
    answer_keep,
    answer_steps,
    answer_room,
    answer_at,
    answer_next,
    answer_load,
    answer_free,
    answer_wait,
    answer_table,
    answer_state,
)
ARGUMENTS = (5, 4, 2, 1, 0, 1, 1, 1, 0, 0, 1, 2, 2, 1, 1, 2, 0, 0)


# Each call's answer, with how many numbers it has before it.
def answer_calls(desk, calls):
    given = []
    start = 0
    while start < len(calls):
        place = calls[start]
        behind = start + 1 + ARGUMENTS[place]
        handler = HANDLERS[place]
        answer = handler(desk, calls[start + 1:behind])
        given.append(len(answer))
        given.extend(answer)
        start = behind
    return given


# The answers to the calls, which are made on a new desk.
def answers(calls):
    return answer_calls(Desk(), calls)
