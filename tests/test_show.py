"""The call show."""

import unittest

from tests.helper import (FAR, YES, before, both, fact, facts, hope, kept, last, nextly, no, run, seeded, show, since,
                          some_condition, turn, turns, until, wish, within)


class Shown(unittest.TestCase):
    def test_told_at_the_beginning(self):
        self.assertEqual(last(wish(YES), show(0)), [0, 0, 0])
        self.assertEqual(last(facts(2), wish(until(fact(0), fact(1))), show(0)), [0, 0, 8, 1, 0, 1, 1])

    def test_told_behind_some_turns(self):
        self.assertEqual(last(facts(1), *turns(1, 0, 1), wish(no(before(fact(0)))), show(0)), [0, 3, 2, 5, 1, 0])
        self.assertEqual(last(facts(3), turn(7), wish(within(20, since(fact(2), YES))), show(0)),
                         [0, 1, 9, 20, 6, 1, 2, 0])

    def test_told_behind_60_turns(self):
        self.assertEqual(last(*turns(*[0] * 60), wish(nextly(YES)), show(0)), [0, 60, 7, 0])

    def test_turns_that_come_then_do_not_count(self):
        calls = [facts(1), turn(0), wish(fact(0)), show(0), turn(1), show(0), turn(0), kept(0), hope(0, 3, 0), show(0)]
        answer = run(calls)
        self.assertEqual([answer[k] for k in (3, 5, 9)], [[0, 1, 1, 0]] * 3)

    def test_refused_turns_and_wishes_do_not_count(self):
        calls = [facts(1), turn(2), turn(1), wish([]), wish(fact(1)), wish(fact(0)), wish([5, 7, 0]), wish(YES)]
        self.assertEqual(run(calls + [show(0), show(1), show(2)])[-3:], [[0, 1, 1, 0], [0, 1, 0], [-4]])

    def test_six_wishes_each_its_own(self):
        rows = [YES, no(YES), before(YES), nextly(YES), within(7, YES), both(YES, no(YES))]
        calls = []
        for row in rows:
            calls += [wish(row), turn(0)]
        calls += [wish(until(YES, YES))] + [show(k) for k in range(6)]
        self.assertEqual(run(calls)[-7:], [[-5]] + [[0, k] + row for k, row in enumerate(rows)])

    def test_the_longest_rows(self):
        for row in ([9, 20] * 11 + fact(2), [3] * 5 + fact(2) * 5 + within(20, fact(1)), [2] * 11 + YES):
            self.assertEqual(last(facts(3), turn(1), wish(row), show(0)), [0, 1] + row)

    def test_random_rows_number_by_number(self):
        source = seeded(12)
        for _ in range(200):
            row = some_condition(source, 3, 12)
            gone = source.randrange(5)
            self.assertEqual(last(facts(3), *turns(*range(gone)), wish(row), turn(5), show(0)), [0, gone] + row)


class NoneSuch(unittest.TestCase):
    def test_none_such(self):
        for number in (-FAR, -2, -1, 2, 3, FAR):
            self.assertEqual(last(wish(YES), wish(YES), show(number)), [-4])
        for number in (-FAR, -1, 0, 1, FAR):
            self.assertEqual(last(show(number)), [-4])
        self.assertEqual(last(*[wish(YES)] * 7, show(6)), [-4])

    def test_asking_changes_nothing(self):
        told = [facts(1), wish(nextly(fact(0))), turn(0)]
        more = [kept(0), turn(1), kept(0), show(0), wish(YES), show(1)]
        answer = run(told + [show(0), show(1), show(-1)] + more)
        self.assertEqual(answer[3:6], [[0, 0, 7, 1, 0], [-4], [-4]])
        self.assertEqual(answer[:3] + answer[6:], run(told + more))


if __name__ == "__main__":
    unittest.main()
