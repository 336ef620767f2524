"""The calls wish and kept."""

import unittest

from tests.helper import (FAR, YES, before, fact, facts, hope, kept, last, nextly, no, run, scene, since, turn, turns,
                          until, wish, within)


class Telling(unittest.TestCase):
    def test_wishes_are_numbered_from_0(self):
        self.assertEqual(run([wish(YES), turn(0), wish(no(YES)), wish(YES)]), [[0, 0], [0, 1, 0], [0, 1], [0, 2]])

    def test_the_sixth_and_the_seventh(self):
        answer = run([wish(YES)] * 8 + [kept(5), kept(6)])
        self.assertEqual(answer, [[0, k] for k in range(6)] + [[-5], [-5], [0, 1], [-4]])

    def test_no_condition_goes_ahead_of_no_place(self):
        full = [facts(1)] + [wish(YES)] * 6
        for row in ([], [0, 0], [1, 1], before(nextly(YES)), within(21, YES), [2] * 12 + YES):
            self.assertEqual(last(facts(1), wish(row)), [-2])
            self.assertEqual(last(*full, wish(row)), [-2])
        self.assertEqual(last(*full, wish(fact(0))), [-5])

    def test_no_place_for_wishes_is_still_one_for_scenes(self):
        self.assertEqual(run([wish(YES)] * 7 + [scene(YES, YES)])[-2:], [[-5], [0, 0]])

    def test_a_refused_wish_leaves_all_as_it_was(self):
        told = [facts(1), wish(fact(0)), wish(no(fact(0)))] + turns(1)
        more = [wish(YES), kept(0), kept(1), kept(2), kept(3), turn(0), kept(0), hope(1, 3, 1)]
        answer = run(told + [wish([]), wish(fact(1))] + more)
        self.assertEqual(answer[4:6], [[-2], [-2]])
        self.assertEqual(answer[:4] + answer[6:], run(told + more))

    def test_a_seventh_wish_leaves_all_as_it_was(self):
        told = [facts(1)] + [wish(no(fact(0)))] * 6
        more = [kept(k) for k in range(-1, 8)] + turns(1, 0) + [kept(k) for k in range(-1, 8)]
        answer = run(told + [wish(YES)] + more)
        self.assertEqual(answer[:7] + answer[8:], run(told + more))


class Kept(unittest.TestCase):
    def test_asked_of_the_end_as_long_as_no_turn_has_come(self):
        rows = [YES, no(YES), fact(0), no(fact(0)), before(YES), no(before(YES)), since(YES, YES), nextly(YES),
                until(YES, YES), within(20, YES), no(within(20, YES))]
        expected = [1, 0, 0, 1, 0, 1, 0, 0, 0, 0, 1]
        for gone in (0, 1, 3):
            for row, kept_so_far in zip(rows, expected):
                self.assertEqual(last(facts(1), *turns(*[1] * gone), wish(row), kept(0)), [0, kept_so_far], row)

    def test_asked_of_the_first_turn_behind_its_telling_ever_after(self):
        answer = run([facts(1), turn(0), wish(fact(0)), kept(0), turn(1), kept(0), turn(0), kept(0), turn(1), kept(0)])
        self.assertEqual([answer[k] for k in (3, 5, 7, 9)], [[0, 0], [0, 1], [0, 1], [0, 1]])
        answer = run([facts(1), turn(1), wish(fact(0)), kept(0), turn(0), kept(0), turn(1), kept(0)])
        self.assertEqual([answer[k] for k in (3, 5, 7)], [[0, 0], [0, 0], [0, 0]])

    def test_kept_so_far_may_change_with_each_turn(self):
        calls = [facts(2), wish(until(YES, fact(0))), wish(no(until(YES, fact(1)))), wish(no(nextly(YES)))]
        for number in (0, 1, 2):
            calls += [kept(0), kept(1), kept(2), turn(number)]
        calls += [kept(0), kept(1), kept(2)]
        answers = [answer for call, answer in zip(calls, run(calls)) if call[0] == 4]
        self.assertEqual(answers, [[0, 0], [0, 1], [0, 1], [0, 0], [0, 1], [0, 1],
                                   [0, 1], [0, 1], [0, 0], [0, 1], [0, 0], [0, 0]])

    def test_as_if_no_turn_came_any_more(self):
        always = no(until(YES, no(fact(0))))
        self.assertEqual(run([facts(1), wish(always), turn(1), kept(0), turn(1), kept(0), turn(0), kept(0), turn(1),
                              kept(0)])[3::2], [[0, 1], [0, 1], [0, 0], [0, 0]])

    def test_wishes_told_at_several_times_each_have_their_own_place(self):
        calls = [facts(1), wish(fact(0)), turn(1), wish(fact(0)), turn(0), wish(fact(0)), turn(1), wish(fact(0))]
        self.assertEqual(run(calls + [kept(k) for k in range(4)])[-4:], [[0, 1], [0, 0], [0, 1], [0, 0]])

    def test_a_wish_told_behind_60_turns(self):
        calls = turns(*[0] * 60) + [wish(YES), wish(since(YES, YES)), turn(0), kept(0), kept(1)]
        self.assertEqual(run(calls)[-5:], [[0, 0], [0, 1], [-5], [0, 1], [0, 0]])

    def test_none_such(self):
        for number in (-FAR, -2, -1, 2, 3, FAR):
            self.assertEqual(last(wish(YES), wish(YES), kept(number)), [-4])
        for number in (-FAR, -1, 0, FAR):
            self.assertEqual(last(kept(number)), [-4])

    def test_asking_changes_nothing(self):
        told = [facts(1), wish(nextly(fact(0))), turn(0)]
        answer = run(told + [kept(0), kept(1), kept(-1), kept(0), turn(1), kept(0), kept(0)])
        self.assertEqual(answer[3:], [[0, 0], [-4], [-4], [0, 0], [0, 2, 0], [0, 1], [0, 1]])


if __name__ == "__main__":
    unittest.main()
