"""How a list of calls is read and what is given back."""

import unittest

from sceneturns.story import answers
from tests.helper import FAR, YES, fact, facts, hope, kept, last, run, scene, turn, wish


class Reading(unittest.TestCase):
    def test_each_answer_has_its_count_before_it(self):
        calls = [0, 1, 1, 2, 1, 0, 2, 2, 1, 0, 1, 0, 3, 1, 4, 0, 5, 0, 1, 0, 3, 9]
        given = [1, 0, 2, 0, 0, 2, 0, 0, 4, 0, 1, 1, 1, 2, 0, 1, 2, 0, 0, 1, -1]
        self.assertEqual(answers(calls), given)

    def test_rows_are_as_long_as_told(self):
        self.assertEqual(answers([1, 0, 1, 1, 0, 2, 0, 0, 2, 1, 0, 0, 2, 0, 1, 0, 2, 1, 0, 1, 0]),
                         [1, -2, 2, 0, 0, 1, -2, 1, -2, 1, -2, 2, 0, 0])

    def test_a_row_of_100_numbers_is_read_whole(self):
        for row in ([0] * 100, [2] * 100, [FAR] * 100, [-FAR] * 100):
            self.assertEqual(run([wish(row), scene(row, YES), scene(YES, row), scene(row, row), turn(0)]),
                             [[-2], [-2], [-2], [-2], [0, 1, 0]])

    def test_what_stands_in_a_refused_row_is_no_call(self):
        self.assertEqual(run([wish([3, 0, 3, 0]), scene([1, 3], [3, 0]), turn(0)]), [[-2], [-2], [0, 1, 0]])

    def test_any_call_may_come_first(self):
        self.assertEqual(last(facts(3)), [0])
        self.assertEqual(last(wish(YES)), [0, 0])
        self.assertEqual(last(scene(YES, YES)), [0, 0])
        self.assertEqual(last(turn(0)), [0, 1, 0])
        self.assertEqual(last(kept(0)), [-4])
        self.assertEqual(last(hope(0, 0, 0)), [-4])

    def test_400_calls(self):
        self.assertEqual(run([facts(2)] * 400), [[0]] * 400)
        most = [wish([0] * 100)] * 400
        self.assertEqual(run(most), [[-2]] * 400)

    def test_whole_numbers_and_never_true_or_false(self):
        calls = [facts(1), wish(fact(0)), scene(fact(0), YES), turn(1), turn(0), kept(0), hope(0, 3, 1), hope(0, 3, 0)]
        given = answers([number for call in calls for number in call])
        self.assertIs(type(given), list)
        self.assertEqual({type(number) for number in given}, {int})


class HandedIn(unittest.TestCase):
    def setUp(self):
        calls = [facts(2), wish([8, 1, 0, 1, 1]), scene(fact(0), fact(1)), turn(1), turn(4), kept(0), hope(0, 6, 1)]
        self.calls = [number for call in calls for number in call]

    def test_the_list_is_the_same_behind_the_call(self):
        as_it_was = list(self.calls)
        answers(self.calls)
        self.assertEqual(self.calls, as_it_was)

    def test_the_list_is_not_changed_for_a_while_either(self):
        class Watched(list):
            def refuse(self, *told):
                raise AssertionError("what was handed in is changed")

            append = clear = extend = insert = pop = remove = reverse = sort = refuse
            __setitem__ = __delitem__ = __iadd__ = __imul__ = refuse

        self.assertEqual(answers(Watched(self.calls)), answers(self.calls))

    def test_what_is_given_back_is_the_callers_own(self):
        first = answers(self.calls)
        expected = list(first)
        first.clear()
        self.assertEqual(answers(self.calls), expected)

    def test_two_times_in_a_row_do_not_know_of_one_another(self):
        self.assertEqual(run([facts(3), wish(fact(2)), scene(YES, YES), turn(7)]), [[0], [0, 0], [0, 0], [0, 1, 1, 1]])
        self.assertEqual(run([turn(1)]), [[-1]])
        self.assertEqual(run([kept(0), hope(0, 0, 1)]), [[-4], [-4]])
        self.assertEqual(run([wish(fact(0))]), [[-2]])
        self.assertEqual(run([facts(1), turn(0), scene(YES, YES), wish(YES)]), [[0], [0, 1, 0], [0, 0], [0, 0]])


if __name__ == "__main__":
    unittest.main()
