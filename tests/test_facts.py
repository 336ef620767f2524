"""The call facts."""

import unittest

from tests.helper import FAR, YES, fact, facts, kept, last, run, scene, turn, turns, wish


class Facts(unittest.TestCase):
    def test_there_are_so_many_facts(self):
        for n in range(4):
            calls = [facts(n)] + [wish(fact(i)) for i in range(-1, 5)]
            expected = [[0], [-2]] + [[0, i] for i in range(n)] + [[-2]] * (5 - n)
            self.assertEqual(run(calls), expected)

    def test_none_at_the_beginning(self):
        self.assertEqual(run([wish(fact(0)), turn(1), turn(0)]), [[-2], [-1], [0, 1, 0]])

    def test_told_again_the_later_one_counts(self):
        self.assertEqual(run([facts(3), facts(1), wish(fact(1)), turn(2), wish(fact(0)), turn(1)]),
                         [[0], [0], [-2], [-1], [0, 0], [0, 1, 0]])
        self.assertEqual(run([facts(1), facts(3), turn(7)]), [[0], [0], [0, 1, 0]])
        self.assertEqual(run([facts(2), facts(0), turn(1), turn(0)]), [[0], [0], [-1], [0, 1, 0]])

    def test_out_of_range(self):
        for n in (-1, 4, 5, FAR, -FAR):
            self.assertEqual(run([facts(2), facts(n), turn(4), turn(3)]), [[0], [-1], [-1], [0, 1, 0]])

    def test_not_behind_a_turn_a_wish_or_a_scene(self):
        for first in (turn(3), wish(fact(1)), scene(fact(1), fact(0))):
            for n in range(4):
                answer = run([facts(2), first, facts(n), turn(4), turn(3)])
                self.assertEqual(answer[2:4], [[-3], [-1]])
                self.assertEqual(answer[4][0], 0)

    def test_out_of_range_goes_ahead_of_not_the_time(self):
        for first in (turn(0), wish(YES), scene(YES, YES)):
            for n in (-1, 4, FAR, -FAR):
                self.assertEqual(last(first, facts(n)), [-1])

    def test_behind_refused_calls_it_is_still_the_time(self):
        self.assertEqual(run([turn(1), wish(fact(0)), scene(fact(0), YES), kept(0), facts(4), facts(1)])[-1], [0])

    def test_a_refusal_leaves_all_as_it_was(self):
        calls = [facts(2), wish(fact(1)), scene(fact(0), fact(1))] + turns(1)
        more = [turn(2), turn(4), kept(0), wish(fact(1)), wish(fact(2))]
        refused = run(calls + [facts(0), facts(3), facts(9)] + more)
        self.assertEqual(refused[4:7], [[-3], [-3], [-1]])
        self.assertEqual(refused[:4] + refused[7:], run(calls + more))


if __name__ == "__main__":
    unittest.main()
