"""The interface: slotround.desk.answers(calls)."""

import unittest

from slotround.desk import answers
from tests.helper import (
    AT, BIG, BLAME, CHECK, COUNT, DEMAND, FREE, KEEP, LOAD, MESSAGE, NEXT, PUT, ROOM, SEARCH, STATE, STEPS, TABLE,
    UNPUT, WAIT, flat, split,
)

MIXED = [
    (CHECK,),
    (MESSAGE, 10, 2, 0, 8, 1),
    (MESSAGE, 10, 3, 0, 7, 3),
    (MESSAGE, 5, 1, 0, 9, 3),
    (DEMAND, 0, 0, 1, 1),
    (PUT, 0, 8),
    (PUT, 1, 8),
    (CHECK,),
    (KEEP,),
    (SEARCH, 20),
    (UNPUT, 0),
    (UNPUT, 0),
    (COUNT, 20000),
    (BLAME, 20000),
    (SEARCH, 0),
    (STEPS,),
    (ROOM, 0),
    (AT, 1, 14),
    (AT, 0, BIG),
    (NEXT, 0, BIG),
    (LOAD, 0),
    (FREE, 0),
    (WAIT, 1, 1),
    (WAIT, 0, 1),
    (TABLE,),
    (STATE,),
    (PUT, 0, 0),
    (KEEP,),
    (PUT, 1, 7),
    (STEPS,),
]
MIXED_ANSWERS = [
    1, 0,
    1, 0,
    1, 1,
    1, -5,
    1, 0,
    1, 0,
    1, -5,
    4, 1, 1, 1, 1,
    1, 0,
    3, 2, 0, 3,
    1, 0,
    1, -7,
    1, 15,
    1, 0,
    1, -1,
    1, -11,
    2, 1, 0,
    2, 1, 1,
    1, 0,
    2, 1, 1000000000000000003,
    2, 1, 2,
    3, 7, 10, 7,
    1, 7,
    1, -7,
    3, 2, -1, 3,
    22, 2, 10, 2, 0, 8, 1, 10, 3, 0, 7, 3, 1, 0, 0, 1, 1, 2, -1, 3, 2, 8, -1,
    1, 0,
    1, 0,
    1, 0,
    2, 1, 1,
]


class AnswersTest(unittest.TestCase):
    def test_form_of_what_is_given_back(self):
        self.assertEqual(answers(flat(MIXED)), MIXED_ANSWERS)

    def test_plain_whole_numbers_in_a_plain_list(self):
        given = answers(flat(MIXED))
        self.assertIs(type(given), list)
        self.assertEqual({type(number) for number in given}, {int})

    def test_list_handed_in_is_left_as_it_was(self):
        calls = flat(MIXED)
        answers(calls)
        self.assertEqual(calls, flat(MIXED))

    def test_list_handed_in_is_not_changed_for_a_while_either(self):
        class Watched(list):
            def refuse(self, *given):
                raise AssertionError("the list handed in is changed")

            append = extend = insert = pop = remove = reverse = sort = clear = refuse
            __setitem__ = __delitem__ = __iadd__ = __imul__ = refuse

        self.assertEqual(answers(Watched(flat(MIXED))), MIXED_ANSWERS)

    def test_two_times_one_after_another_answer_alike(self):
        self.assertEqual(answers(flat(MIXED)), answers(flat(MIXED)))
        self.assertEqual(answers([CHECK]), [1, 0])

    def test_nothing_is_kept_from_one_time_to_the_next(self):
        answers(flat(MIXED))
        self.assertEqual(answers([STATE]), [4, 0, 0, 0, 0])
        self.assertEqual(answers([STEPS]), [1, 0])
        self.assertEqual(answers([MESSAGE, 4, 1, 0, 3, 1, STEPS]), [1, 0, 1, -7])

    def test_each_call_alone_on_a_new_desk(self):
        for call, given in (
            ((MESSAGE, 4, 1, 0, 3, 1), [1, 0]), ((DEMAND, 0, 0, 1, 0), [1, -4]), ((PUT, 0, 0), [1, -4]),
            ((UNPUT, 0), [1, -4]), ((CHECK,), [1, 0]), ((SEARCH, 1), [1, 0]), ((COUNT, 1), [1, 1]),
            ((BLAME, 1), [1, 0]), ((KEEP,), [1, 0]), ((STEPS,), [1, 0]), ((ROOM, 0), [1, -4]), ((AT, 0, 0), [1, 0]),
            ((NEXT, 0, 0), [1, -6]), ((LOAD, 0), [2, 0, 1]), ((FREE, 0), [3, 1, 1, 1]), ((WAIT, 0, 0), [1, -4]),
            ((TABLE,), [1, 0]), ((STATE,), [4, 0, 0, 0, 0]),
        ):
            with self.subTest(call=call):
                self.assertEqual(answers(list(call)), given)

    def test_what_is_given_back_is_new_each_time(self):
        given = answers(flat(MIXED))
        given.clear()
        self.assertEqual(answers(flat(MIXED)), MIXED_ANSWERS)

    def test_four_hundred_calls(self):
        calls = [(MESSAGE, 4, 1, 0, 3, 1)] * 8 + [(PUT, m, 0) for m in range(8)] + [(CHECK,)] * 384
        rows = split(answers(flat(calls)))
        self.assertEqual(len(rows), 400)
        self.assertEqual(rows[-1], rows[16])
        self.assertEqual(len(rows[-1]), 1 + 28 * 3)
