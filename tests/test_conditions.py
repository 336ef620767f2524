"""When each condition holds: at the first place, between, at the last place and at the end."""

import unittest

from tests.helper import (YES, before, both, either, fact, facts, holds, kept, last, nextly, no, seeded, since,
                          some_condition, turns, until, wish, within)


def told_behind(row, course, gone, fact_count=2):
    """1 if a wish told behind so many turns of the course is kept so far at the course's end, else 0."""
    calls = [facts(fact_count)] + turns(*course[:gone]) + [wish(row)] + turns(*course[gone:]) + [kept(0)]
    answer = last(*calls)
    assert answer[0] == 0 and len(answer) == 2, answer
    return answer[1]


def at_all_places(row, course):
    """What is answered for each place of the course, from the first one to the end."""
    return [told_behind(row, course, gone) for gone in range(len(course) + 1)]


class AtEachPlace(unittest.TestCase):
    def check(self, row, course, expected):
        self.assertEqual(at_all_places(row, course), expected, (row, course))

    def test_yes(self):
        self.check(YES, [0, 3, 1], [1, 1, 1, 1])
        self.check(YES, [], [1])

    def test_fact(self):
        self.check(fact(0), [0, 1, 2, 3], [0, 1, 0, 1, 0])
        self.check(fact(1), [0, 1, 2, 3], [0, 0, 1, 1, 0])
        self.check(fact(0), [3, 2], [1, 0, 0])
        self.check(fact(0), [], [0])

    def test_not(self):
        self.check(no(YES), [0, 3, 1], [0, 0, 0, 0])
        self.check(no(fact(0)), [0, 1, 2, 3], [1, 0, 1, 0, 1])
        self.check(no(no(fact(0))), [0, 1, 2, 3], [0, 1, 0, 1, 0])

    def test_both(self):
        self.check(both(fact(0), fact(1)), [0, 1, 2, 3, 3], [0, 0, 0, 1, 1, 0])
        self.check(both(fact(0), fact(1)), [3, 0], [1, 0, 0])
        self.check(both(YES, no(fact(0))), [1, 0], [0, 1, 1])

    def test_either(self):
        self.check(either(fact(0), fact(1)), [0, 1, 2, 3], [0, 1, 1, 1, 0])
        self.check(either(fact(0), fact(1)), [3, 0], [1, 0, 0])
        self.check(either(no(YES), no(fact(0))), [1, 0], [0, 1, 1])

    def test_before(self):
        self.check(before(YES), [0, 0, 0], [0, 1, 1, 0])
        self.check(before(YES), [0], [0, 0])
        self.check(before(YES), [], [0])
        self.check(before(fact(0)), [1, 0, 1, 1], [0, 1, 0, 1, 0])
        self.check(before(before(fact(0))), [1, 0, 0, 0], [0, 0, 1, 0, 0])
        self.check(no(before(YES)), [0, 0, 0], [1, 0, 0, 1])
        self.check(before(no(before(YES))), [0, 0, 0], [0, 1, 0, 0])

    def test_since(self):
        self.check(since(fact(0), fact(1)), [2, 1, 1, 0, 1], [1, 1, 1, 0, 0, 0])
        self.check(since(fact(0), fact(1)), [1, 1, 0, 2, 1], [0, 0, 0, 1, 1, 0])
        self.check(since(fact(0), fact(1)), [2, 0, 1, 2], [1, 0, 0, 1, 0])
        self.check(since(fact(0), fact(1)), [2], [1, 0])
        self.check(since(fact(0), fact(1)), [], [0])
        self.check(since(YES, YES), [0, 0], [1, 1, 0])
        self.check(since(no(YES), fact(0)), [1, 0, 1], [1, 0, 1, 0])
        self.check(no(since(YES, fact(0))), [0, 1, 0], [1, 0, 0, 1])
        self.check(since(YES, since(fact(0), fact(1))), [1, 2, 0], [0, 1, 1, 0])

    def test_next(self):
        self.check(nextly(YES), [0, 0, 0], [1, 1, 0, 0])
        self.check(nextly(YES), [0], [0, 0])
        self.check(nextly(YES), [], [0])
        self.check(nextly(fact(0)), [1, 0, 1, 1], [0, 1, 1, 0, 0])
        self.check(nextly(no(fact(0))), [1, 0, 1], [1, 0, 0, 0])
        self.check(nextly(nextly(fact(0))), [0, 0, 1, 0], [1, 0, 0, 0, 0])
        self.check(no(nextly(YES)), [0, 0, 0], [0, 0, 1, 1])

    def test_until(self):
        self.check(until(fact(0), fact(1)), [1, 1, 2, 0], [1, 1, 1, 0, 0])
        self.check(until(fact(0), fact(1)), [1, 0, 2], [0, 0, 1, 0])
        self.check(until(fact(0), fact(1)), [1, 1], [0, 0, 0])
        self.check(until(fact(0), fact(1)), [2], [1, 0])
        self.check(until(YES, YES), [0, 0], [1, 1, 0])
        self.check(until(YES, no(fact(0))), [1, 1], [0, 0, 0])
        self.check(until(no(YES), fact(0)), [1, 0, 1], [1, 0, 1, 0])
        self.check(no(until(YES, fact(0))), [0, 1, 0], [0, 0, 1, 1])

    def test_within(self):
        self.check(within(0, fact(0)), [1, 0, 1], [1, 0, 1, 0])
        self.check(within(1, fact(0)), [0, 0, 1, 0], [0, 1, 1, 0, 0])
        self.check(within(2, fact(0)), [0, 0, 0, 1], [0, 1, 1, 1, 0])
        self.check(within(20, fact(0)), [0, 0, 0, 1, 0], [1, 1, 1, 1, 0, 0])
        self.check(within(2, fact(0)), [1, 0, 0, 0, 1], [1, 0, 1, 1, 1, 0])
        self.check(within(3, YES), [0, 0], [1, 1, 0])
        self.check(within(3, no(fact(0))), [1, 1], [0, 0, 0])
        self.check(no(within(0, YES)), [0, 0], [0, 0, 1])
        self.check(within(0, YES), [], [0])

    def test_within_20_and_no_further(self):
        self.check(within(20, fact(0)), [0] * 21 + [1], [0] + [1] * 21 + [0])
        self.check(within(19, fact(0)), [0] * 21 + [1], [0] * 2 + [1] * 20 + [0])


class WithWhatIsInIt(unittest.TestCase):
    def check(self, row, course, expected):
        self.assertEqual(at_all_places(row, course), expected, (row, course))

    def test_within_of_within_and_until(self):
        self.check(within(1, within(1, fact(0))), [0, 0, 0, 1], [0, 1, 1, 1, 0])
        self.check(within(1, until(fact(0), fact(1))), [0, 1, 1, 2, 0], [1, 1, 1, 1, 0, 0])
        self.check(until(within(1, fact(0)), fact(1)), [0, 1, 0, 2], [0, 0, 0, 1, 0])
        self.check(until(within(1, fact(0)), fact(1)), [0, 1, 0, 3], [1, 1, 1, 1, 0])

    def test_until_of_until(self):
        self.check(until(YES, both(fact(0), until(YES, fact(1)))), [0, 1, 0, 2], [1, 1, 0, 0, 0])
        self.check(until(until(YES, fact(0)), fact(1)), [0, 1, 2], [1, 1, 1, 0])

    def test_looking_back_from_a_later_place(self):
        self.check(nextly(before(fact(0))), [1, 0, 1, 0], [1, 0, 1, 0, 0])
        self.check(within(2, since(fact(0), fact(1))), [0, 0, 2, 1], [1, 1, 1, 1, 0])
        self.check(until(no(before(fact(0))), fact(1)), [0, 1, 0, 2], [0, 0, 0, 1, 0])
        self.check(until(no(before(before(fact(0)))), fact(1)), [0, 1, 0, 2], [1, 1, 1, 1, 0])
        self.check(until(no(before(before(fact(0)))), fact(1)), [1, 0, 0, 2], [0, 0, 0, 1, 0])
        self.check(until(no(before(before(fact(0)))), fact(1)), [0, 0, 1, 2], [1, 1, 1, 1, 0])


class ToldLate(unittest.TestCase):
    def test_looks_at_the_whole_course_from_its_first_turn(self):
        course = [1] + [0] * 10
        self.assertEqual(told_behind(since(YES, fact(0)), course, 5), 1)
        self.assertEqual(told_behind(before(since(YES, fact(0))), course, 10), 1)
        self.assertEqual(told_behind([5] * 10 + fact(0), course, 10), 1)
        self.assertEqual(told_behind([5] * 9 + fact(0), course, 10), 0)
        self.assertEqual(told_behind(nextly(since(no(fact(1)), fact(0))), course, 3), 1)
        self.assertEqual(told_behind(before(fact(0)), course, 1), 1)
        self.assertEqual(told_behind(before(fact(0)), course, 2), 0)

    def test_a_wish_told_before_any_turn_asks_of_the_first_place(self):
        for row, expected in ((before(YES), 0), (since(fact(0), fact(1)), 0), (since(YES, fact(0)), 1),
                              (nextly(before(fact(0))), 1), (nextly(nextly(before(fact(1)))), 1),
                              (nextly(nextly(nextly(YES))), 0), (no(before(YES)), 1)):
            self.assertEqual(told_behind(row, [1, 2, 0], 0), expected, row)


class AsThePlainReading(unittest.TestCase):
    def test_random_conditions_at_all_places(self):
        source = seeded(1)
        for _ in range(400):
            fact_count = source.randrange(4)
            row = some_condition(source, fact_count, 12)
            course = [source.randrange(2 ** fact_count) for _ in range(source.randrange(8))]
            for gone in range(len(course) + 1):
                self.assertEqual(told_behind(row, course, gone, fact_count), int(holds(row, course, gone + 1)),
                                 (row, course, gone))

    def test_random_conditions_on_long_courses(self):
        source = seeded(2)
        for _ in range(60):
            row = some_condition(source, 1, 9)
            course = [int(source.random() < 0.1) for _ in range(60)]
            for gone in (0, 1, 30, 59, 60):
                self.assertEqual(told_behind(row, course, gone, 1), int(holds(row, course, gone + 1)),
                                 (row, course, gone))


if __name__ == "__main__":
    unittest.main()
