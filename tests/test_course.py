"""The call course."""

import unittest

from tests.helper import (YES, facts, hope, holds_at, last, run, scene, scenes, together, told_course, turn, turns,
                          wish)


class Course(unittest.TestCase):
    def test_of_no_turns(self):
        self.assertEqual(last(told_course()), [0])
        self.assertEqual(last(facts(3), wish(YES), scene(YES, YES), told_course()), [0])

    def test_the_first_turn_first(self):
        self.assertEqual(last(facts(3), *turns(5, 0, 7, 2, 2), told_course()), [0, 5, 0, 7, 2, 2])
        self.assertEqual(last(turn(0), told_course()), [0, 0])

    def test_behind_each_turn(self):
        calls = [facts(2), told_course(), turn(3), told_course(), turn(0), told_course(), turn(1), told_course()]
        self.assertEqual(run(calls)[1::2], [[0], [0, 3], [0, 3, 0], [0, 3, 0, 1]])

    def test_of_60_turns(self):
        course = [place * 3 % 8 for place in range(60)]
        answer = run([facts(3)] + turns(*course[:59]) + [told_course(), turn(course[59]), told_course()])
        self.assertEqual(answer[-3:], [[0] + course[:59], [0, 60, 0], [0] + course])

    def test_refused_turns_are_not_in_it(self):
        self.assertEqual(last(facts(1), turn(2), turn(1), turn(-1), told_course()), [0, 1])
        self.assertEqual(last(facts(1), *turns(*[1] * 62), told_course()), [0] + [1] * 60)

    def test_ways_on_and_wishes_are_not_in_it(self):
        told = [facts(1), scene([1, 0], YES), wish([1, 0]), turn(0), wish([7, 1, 0])]
        asked = [hope(1, 6, 1), together(0, 0, 6), holds_at(1, YES), scenes()]
        answer = run(told + asked + [told_course(), told_course()])
        self.assertEqual(answer[5:], [[0, 1, 0, 1], [0, 1, 1], [0, 1], [0, 0, 0, 0], [0, 0], [0, 0]])


if __name__ == "__main__":
    unittest.main()
