"""The interface: slotround.desk.answers(calls)."""

import unittest

from slotround.desk import answers
from tests.helper import BLAME, CHECK, COUNT, DEMAND, KEEP, MESSAGE, PUT, SEARCH, UNPUT, flat, split

MIXED = [
    (CHECK,),
    (MESSAGE, 10, 2, 0, 8, 1),
    (MESSAGE, 10, 3, 0, 7, 3),
    (MESSAGE, 5, 1, 0, 9, 3),
    (DEMAND, 0, 0, 1, 1),
    (PUT, 0, 8),
    (PUT, 1, 8),
    (CHECK,),
    (KEEP,),
    (SEARCH, 20),
    (UNPUT, 0),
    (UNPUT, 0),
    (COUNT, 20000),
    (BLAME, 20000),
    (SEARCH, 0),
]
MIXED_ANSWERS = [
    1, 0,
    1, 0,
    1, 1,
    1, -5,
    1, 0,
    1, 0,
    1, -5,
    4, 1, 1, 1, 1,
    1, 0,
    3, 2, 0, 3,
    1, 0,
    1, -7,
    1, 15,
    1, 0,
    1, -1,
]


class AnswersTest(unittest.TestCase):
    def test_form_of_what_is_given_back(self):
        self.assertEqual(answers(flat(MIXED)), MIXED_ANSWERS)

    def test_plain_whole_numbers_in_a_plain_list(self):
        given = answers(flat(MIXED))
        self.assertIs(type(given), list)
        self.assertEqual({type(number) for number in given}, {int})

    def test_list_handed_in_is_left_as_it_was(self):
        calls = flat(MIXED)
        answers(calls)
        self.assertEqual(calls, flat(MIXED))

    def test_list_handed_in_is_not_changed_for_a_while_either(self):
        class Watched(list):
            def refuse(self, *given):
                raise AssertionError("the list handed in is changed")

            append = extend = insert = pop = remove = reverse = sort = clear = refuse
            __setitem__ = __delitem__ = __iadd__ = __imul__ = refuse

        self.assertEqual(answers(Watched(flat(MIXED))), MIXED_ANSWERS)

    def test_two_times_one_after_another_answer_alike(self):
        self.assertEqual(answers(flat(MIXED)), answers(flat(MIXED)))
        self.assertEqual(answers([CHECK]), [1, 0])

    def test_what_is_given_back_is_new_each_time(self):
        given = answers(flat(MIXED))
        given.clear()
        self.assertEqual(answers(flat(MIXED)), MIXED_ANSWERS)

    def test_four_hundred_calls(self):
        calls = [(MESSAGE, 4, 1, 0, 3, 1)] * 8 + [(PUT, m, 0) for m in range(8)] + [(CHECK,)] * 384
        rows = split(answers(flat(calls)))
        self.assertEqual(len(rows), 400)
        self.assertEqual(rows[-1], rows[16])
        self.assertEqual(len(rows[-1]), 1 + 28 * 3)
