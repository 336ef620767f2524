"""The call holds."""

import unittest

from tests.helper import (FAR, YES, before, both, either, fact, facts, holds, holds_at, kept, last, nextly, no,
                          plain_run, run, scene, seeded, since, some_condition, told_course, turn, turns, until, wish,
                          within)

NO_CONDITIONS = ([], [10], [-1], [FAR], [-FAR], [0, 0], [1], [1, 2], [1, -1], [9, 21, 0], [9, -1, 0], [9, 3], [3, 0],
                 before(nextly(YES)), since(YES, no(until(YES, YES))), since(within(0, YES), YES), [2] * 12 + YES,
                 [0] * 100, [2] * 100)


def at_places(row, course, fact_count=2):
    """What is answered for each place of the course, the first one first."""
    calls = [facts(fact_count)] + turns(*course) + [holds_at(place + 1, row) for place in range(len(course))]
    found = run(calls)[len(course) + 1:]
    assert all(answer in ([0, 0], [0, 1]) for answer in found), found
    return [answer[1] for answer in found]


class AtEachPlace(unittest.TestCase):
    def check(self, row, course, expected):
        self.assertEqual(at_places(row, course), expected, (row, course))

    def test_yes(self):
        self.check(YES, [0, 3, 1], [1, 1, 1])
        self.check(YES, [0], [1])

    def test_fact(self):
        self.check(fact(0), [1, 0, 2, 3], [1, 0, 0, 1])
        self.check(fact(1), [1, 0, 2, 3], [0, 0, 1, 1])

    def test_not(self):
        self.check(no(fact(0)), [0, 1, 2], [1, 0, 1])
        self.check(no(YES), [0, 1, 2], [0, 0, 0])
        self.check(no(no(fact(0))), [0, 1, 3], [0, 1, 1])

    def test_both_and_either(self):
        self.check(both(fact(0), fact(1)), [3, 0, 1, 2, 3], [1, 0, 0, 0, 1])
        self.check(either(fact(0), fact(1)), [3, 0, 1, 2, 0], [1, 0, 1, 1, 0])

    def test_before(self):
        self.check(before(YES), [0, 0, 0], [0, 1, 1])
        self.check(before(fact(0)), [1, 0, 1, 1], [0, 1, 0, 1])
        self.check(before(before(fact(0))), [1, 0, 0, 0], [0, 0, 1, 0])
        self.check(no(before(YES)), [0, 0, 0], [1, 0, 0])

    def test_since(self):
        self.check(since(fact(0), fact(1)), [2, 1, 1, 0, 1], [1, 1, 1, 0, 0])
        self.check(since(fact(0), fact(1)), [1, 1, 0, 2, 1], [0, 0, 0, 1, 1])
        self.check(since(no(YES), fact(0)), [1, 0, 1], [1, 0, 1])

    def test_next(self):
        self.check(nextly(YES), [0, 0, 0], [1, 1, 0])
        self.check(nextly(fact(0)), [1, 0, 1, 1], [0, 1, 1, 0])
        self.check(nextly(no(fact(0))), [1, 0, 1], [1, 0, 0])
        self.check(no(nextly(YES)), [0, 0, 0], [0, 0, 1])
        self.check(nextly(nextly(YES)), [0, 0, 0], [1, 0, 0])

    def test_until(self):
        self.check(until(fact(0), fact(1)), [1, 1, 2, 0], [1, 1, 1, 0])
        self.check(until(fact(0), fact(1)), [1, 0, 1, 2], [0, 0, 1, 1])
        self.check(until(fact(0), fact(1)), [1, 1, 1], [0, 0, 0])
        self.check(until(YES, no(fact(0))), [1, 0, 1], [1, 1, 0])
        self.check(no(until(YES, fact(0))), [0, 1, 0], [0, 0, 1])

    def test_within(self):
        self.check(within(0, fact(0)), [1, 0, 1], [1, 0, 1])
        self.check(within(1, fact(0)), [0, 0, 1, 0], [0, 1, 1, 0])
        self.check(within(2, fact(0)), [1, 0, 0, 0, 1], [1, 0, 1, 1, 1])
        self.check(within(20, fact(0)), [0, 0, 1, 0], [1, 1, 1, 0])
        self.check(within(20, fact(0)), [0] * 21 + [1], [0] + [1] * 21)
        self.check(within(3, no(fact(0))), [0, 1, 1], [1, 0, 0])

    def test_next_until_and_within_at_the_last_turn(self):
        # No place behind the last turn is looked at, also where what is in them would hold at the end.
        for row in (nextly(YES), nextly(no(fact(0))), until(YES, no(fact(0))), until(fact(0), no(fact(0))),
                    within(20, no(fact(0))), nextly(until(YES, YES)), until(YES, nextly(YES)), within(5, nextly(YES))):
            self.check(both(fact(0), row), [1], [0])
            self.assertEqual(at_places(row, [0, 1])[-1], 0, row)
        for row in (until(YES, fact(0)), until(no(YES), fact(0)), within(0, fact(0)), within(20, fact(0))):
            self.assertEqual(at_places(row, [0, 1])[-1], 1, row)

    def test_looking_both_ways(self):
        self.check(nextly(before(fact(0))), [1, 0, 1, 0], [1, 0, 1, 0])
        self.check(until(no(before(fact(0))), fact(1)), [0, 1, 0, 2], [0, 0, 0, 1])
        self.check(both(since(YES, fact(0)), until(YES, fact(1))), [0, 1, 0, 2, 0], [0, 1, 1, 1, 0])
        self.check(within(1, both(before(fact(0)), nextly(fact(1)))), [1, 1, 0, 2, 2], [0, 1, 1, 0, 0])

    def test_at_the_places_of_60_turns(self):
        course = [1] + [0] * 58 + [2]
        self.check(since(YES, fact(0)), course, [1] * 60)
        self.check(until(YES, fact(1)), course, [1] * 60)
        self.check(before(fact(0)), course, [0, 1] + [0] * 58)
        self.check(within(20, fact(1)), course, [0] * 39 + [1] * 21)
        self.check(nextly(YES), course, [1] * 59 + [0])


class AsItIs(unittest.TestCase):
    def test_of_the_course_as_it_is(self):
        calls = [facts(1), turn(0), holds_at(1, nextly(fact(0))), turn(1), holds_at(1, nextly(fact(0)))]
        self.assertEqual(run(calls)[2::2], [[0, 0], [0, 1]])
        calls = [facts(1)]
        for number in (0, 0, 0, 1):
            calls += [turn(number), holds_at(1, no(within(2, fact(0)))), holds_at(1, until(YES, fact(0)))]
        answer = run(calls)
        self.assertEqual(answer[2::3], [[0, 1]] * 4)
        self.assertEqual(answer[3::3], [[0, 0]] * 3 + [[0, 1]])

    def test_the_course_from_its_first_turn_whenever_it_is_asked(self):
        self.assertEqual(last(facts(1), *turns(1, 0, 0, 0), holds_at(4, [5] * 3 + fact(0))), [0, 1])
        self.assertEqual(last(facts(1), *turns(1, 0, 0, 0), holds_at(4, [5] * 2 + fact(0))), [0, 0])

    def test_a_wish_told_right_before_a_place_is_kept_if_the_condition_holds_there(self):
        source = seeded(13)
        for _ in range(200):
            row = some_condition(source, 2, 12)
            course = [source.randrange(4) for _ in range(source.randint(1, 8))]
            place = source.randint(1, len(course))
            calls = [facts(2)] + turns(*course[:place - 1]) + [wish(row)] + turns(*course[place - 1:])
            answer = run(calls + [kept(0), holds_at(place, row)])
            self.assertEqual(answer[-1], answer[-2], (row, course, place))

    def test_as_the_plain_reading(self):
        source = seeded(14)
        for _ in range(400):
            fact_count = source.randrange(4)
            row = some_condition(source, fact_count, 12)
            course = [source.randrange(2 ** fact_count) for _ in range(source.randint(1, 8))]
            self.assertEqual(at_places(row, course, fact_count),
                             [int(holds(row, course, place + 1)) for place in range(len(course))], (row, course))

    def test_as_the_plain_reading_with_refusals(self):
        source = seeded(15)
        for _ in range(200):
            fact_count = source.randrange(3)
            calls = [facts(fact_count)]
            for _ in range(30):
                row = some_condition(source, source.randint(fact_count, 3), source.randint(1, 14))
                if source.random() < 0.3:
                    calls.append(turn(source.randrange(2 ** fact_count)))
                else:
                    calls.append(holds_at(source.randint(-1, 12), row))
            self.assertEqual(run(calls), plain_run(calls), calls)


class Refusals(unittest.TestCase):
    def test_place_out_of_range(self):
        for gone in (1, 2, 59, 60):
            told = [facts(2)] + turns(*[1] * gone)
            for place in (-FAR, -1, 0, gone + 1, gone + 2, FAR):
                self.assertEqual(last(*told, holds_at(place, YES)), [-1], (gone, place))
            for place in (1, gone):
                self.assertEqual(last(*told, holds_at(place, YES)), [0, 1], (gone, place))

    def test_no_place_at_all_where_there_are_no_turns(self):
        for place in (-FAR, -1, 0, 1, 2, FAR):
            self.assertEqual(last(facts(1), holds_at(place, YES)), [-1])

    def test_no_condition(self):
        for row in NO_CONDITIONS:
            for place in (1, 2):
                self.assertEqual(last(facts(2), *turns(0, 3), holds_at(place, row)), [-2], row)

    def test_facts_such_that_there_are(self):
        for fact_count in range(4):
            for i in (-1, 0, 1, 2, 3):
                expected = [0, 0] if i in range(fact_count) else [-2]
                self.assertEqual(last(facts(fact_count), turn(0), holds_at(1, fact(i))), expected)

    def test_a_place_out_of_range_goes_ahead_of_no_condition(self):
        for row in NO_CONDITIONS:
            for place in (-FAR, -1, 0, 3, FAR):
                self.assertEqual(last(facts(2), *turns(0, 3), holds_at(place, row)), [-1], row)
            self.assertEqual(last(facts(2), holds_at(1, row)), [-1], row)

    def test_rows_of_twelve_and_of_thirteen(self):
        self.assertEqual(last(turn(0), holds_at(1, [2] * 10 + YES)), [0, 1])
        self.assertEqual(last(turn(0), holds_at(1, [2] * 11 + YES)), [0, 0])
        self.assertEqual(last(turn(0), holds_at(1, [2] * 12 + YES)), [-2])

    def test_all_is_as_it_was_behind_it_refused_or_not(self):
        told = [facts(2), wish(until(fact(0), fact(1))), scene(fact(0), fact(1)), turn(1)]
        asked = [holds_at(1, fact(0)), holds_at(1, nextly(YES)), holds_at(0, YES), holds_at(1, []), holds_at(2, [])]
        more = [kept(0), told_course(), turn(2), kept(0), wish(YES), kept(1), holds_at(2, before(fact(0)))]
        answer = run(told + asked + more)
        self.assertEqual(answer[4:9], [[0, 1], [0, 0], [-1], [-2], [-1]])
        self.assertEqual(answer[:4] + answer[9:], run(told + more))

    def test_asking_is_no_wish(self):
        self.assertEqual(run([turn(0), holds_at(1, YES), kept(0), wish(YES)])[-2:], [[-4], [0, 0]])


if __name__ == "__main__":
    unittest.main()
