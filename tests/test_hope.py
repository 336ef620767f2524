"""The call hope."""

import unittest

from tests.helper import (FAR, YES, before, both, either, fact, facts, holds, hope, kept, last, nextly, no, plain_run,
                          run, scene, seeded, since, some_condition, turn, turns, until, wish, within)


def hoped(row, n, v, fact_count=2, gone=(), come=()):
    """What is answered for a wish told behind some turns, with some more come then."""
    return last(facts(fact_count), *turns(*gone), wish(row), *turns(*come), hope(0, n, v))


NEVER = no(YES)


class FirstWay(unittest.TestCase):
    def test_the_way_of_no_turns(self):
        for n in range(7):
            self.assertEqual(hoped(YES, n, 1), [0, 1])
            self.assertEqual(hoped(fact(0), n, 0), [0, 1])
            self.assertEqual(hoped(fact(0), n, 1, come=(1,)), [0, 1])
            self.assertEqual(hoped(fact(0), n, 0, come=(2, 1)), [0, 1])

    def test_none(self):
        for n in range(7):
            self.assertEqual(hoped(YES, n, 0), [0, 0])
            self.assertEqual(hoped(NEVER, n, 1), [0, 0])
            self.assertEqual(hoped(fact(0), n, 1, come=(2,)), [0, 0])
            self.assertEqual(hoped(fact(0), n, 0, come=(1,)), [0, 0])

    def test_n_0(self):
        self.assertEqual(hoped(fact(0), 0, 1), [0, 0])
        self.assertEqual(hoped(fact(0), 0, 0), [0, 1])

    def test_of_at_most_n_turns(self):
        for length in range(1, 8):
            row = [7] * (length - 1) + fact(0)
            for n in range(7):
                expected = [0, 1] + [0] * (length - 1) + [1] if length <= n else [0, 0]
                self.assertEqual(hoped(row, n, 1), expected)

    def test_n_6_with_0_and_with_3_facts(self):
        self.assertEqual(hoped([7] * 5 + YES, 6, 1, 0), [0, 1] + [0] * 6)
        self.assertEqual(hoped([7] * 5 + YES, 5, 1, 0), [0, 0])
        self.assertEqual(hoped([7] * 6 + YES, 6, 1, 0), [0, 0])
        self.assertEqual(hoped([7] * 5 + both(fact(2), both(fact(1), fact(0))), 6, 1, 3), [0, 1] + [0] * 5 + [7])
        self.assertEqual(hoped([7] * 6 + fact(0), 6, 1, 3), [0, 0])

    def test_the_fewest_turns_go_ahead_of_lower_numbers(self):
        self.assertEqual(hoped(either(fact(1), nextly(nextly(YES))), 6, 1), [0, 1, 2])
        self.assertEqual(hoped(either(both(fact(0), fact(1)), nextly(YES)), 6, 1), [0, 1, 3])

    def test_of_as_many_turns_the_first_in_order(self):
        self.assertEqual(hoped(either(fact(0), fact(1)), 6, 1), [0, 1, 1])
        self.assertEqual(hoped(either(fact(1), fact(0)), 6, 1), [0, 1, 1])
        self.assertEqual(hoped(both(fact(1), nextly(fact(0))), 6, 1), [0, 1, 2, 1])
        self.assertEqual(hoped(nextly(fact(1)), 6, 1), [0, 1, 0, 2])
        self.assertEqual(hoped(either(both(fact(0), nextly(YES)), nextly(fact(1))), 6, 1), [0, 1, 0, 2])
        self.assertEqual(hoped(either(both(fact(0), nextly(YES)), nextly(fact(1))), 6, 1, come=(1,)), [0, 1, 0])
        self.assertEqual(hoped(nextly(nextly(either(fact(0), fact(1)))), 3, 1, 3), [0, 1, 0, 0, 1])

    def test_the_first_turn_counts_ahead_of_the_second(self):
        row = either(both(fact(1), nextly(no(fact(0)))), both(fact(0), nextly(fact(1))))
        self.assertEqual(hoped(row, 6, 1), [0, 1, 1, 2])

    def test_to_break_it(self):
        self.assertEqual(hoped(no(fact(0)), 6, 0), [0, 1, 1])
        self.assertEqual(hoped(no(until(YES, fact(1))), 6, 0, come=(0, 1)), [0, 1, 2])
        self.assertEqual(hoped(no(nextly(nextly(fact(0)))), 6, 0), [0, 1, 0, 0, 1])
        self.assertEqual(hoped(until(YES, fact(1)), 6, 0, come=(2,)), [0, 0])

    def test_a_wish_kept_at_the_end_and_broken_by_any_turn(self):
        ended = no(since(YES, YES))
        self.assertEqual(hoped(ended, 6, 1), [0, 1])
        self.assertEqual(hoped(ended, 6, 0), [0, 1, 0])
        self.assertEqual(hoped(ended, 6, 1, come=(0,)), [0, 0])

    def test_each_condition(self):
        self.assertEqual(hoped(until(fact(0), fact(1)), 6, 1), [0, 1, 2])
        self.assertEqual(hoped(until(fact(0), fact(1)), 6, 1, come=(1, 1)), [0, 1, 2])
        self.assertEqual(hoped(until(fact(0), fact(1)), 6, 1, come=(1, 0)), [0, 0])
        self.assertEqual(hoped(within(2, fact(1)), 6, 1, come=(0, 0)), [0, 1, 2])
        self.assertEqual(hoped(within(2, fact(1)), 6, 1, come=(0, 0, 0)), [0, 0])
        self.assertEqual(hoped(nextly(within(1, fact(0))), 6, 1), [0, 1, 0, 1])
        self.assertEqual(hoped(before(fact(0)), 6, 1), [0, 0])
        self.assertEqual(hoped(until(YES, before(before(fact(0)))), 6, 1), [0, 1, 1, 0, 0])
        self.assertEqual(hoped(until(YES, both(fact(1), since(no(fact(1)), fact(0)))), 6, 1), [0, 1, 3])
        self.assertEqual(hoped(until(YES, both(fact(1), before(since(YES, fact(0))))), 6, 1), [0, 1, 1, 2])
        self.assertEqual(hoped(no(until(YES, no(fact(0)))), 6, 1, come=(1, 1)), [0, 1])
        self.assertEqual(hoped(both(until(YES, fact(0)), no(until(YES, both(fact(0), no(before(fact(1))))))), 6, 1),
                         [0, 1, 2, 1])

    def test_within_20_over_a_course(self):
        self.assertEqual(hoped(within(20, fact(0)), 6, 1, 1, come=[0] * 20), [0, 1, 1])
        self.assertEqual(hoped(within(20, fact(0)), 6, 1, 1, come=[0] * 21), [0, 0])
        self.assertEqual(hoped(within(20, nextly(nextly(fact(0)))), 6, 1, 1, come=[0] * 20), [0, 1, 1])
        self.assertEqual(hoped(within(20, nextly(nextly(fact(0)))), 6, 1, 1, come=[0] * 22), [0, 1, 1])
        self.assertEqual(hoped(within(20, nextly(nextly(fact(0)))), 6, 1, 1, come=[0] * 23), [0, 0])


class ToldLate(unittest.TestCase):
    def test_a_wish_told_behind_some_turns(self):
        self.assertEqual(hoped(before(fact(0)), 6, 1, gone=(2, 1)), [0, 1, 0])
        self.assertEqual(hoped(before(fact(0)), 6, 1, gone=(1, 2)), [0, 0])
        self.assertEqual(hoped(before(fact(0)), 6, 0, gone=(1,)), [0, 1])
        self.assertEqual(hoped(before(fact(0)), 6, 0, gone=(1,), come=(0,)), [0, 0])
        self.assertEqual(hoped(nextly(since(fact(0), fact(1))), 6, 1, gone=(2, 1)), [0, 1, 0, 2])
        self.assertEqual(hoped(nextly(since(fact(0), fact(1))), 6, 1, gone=(2, 1), come=(1,)), [0, 1, 1])
        self.assertEqual(hoped(fact(0), 6, 1, gone=(1, 1)), [0, 1, 1])

    def test_several_wishes_each_from_its_own_place(self):
        calls = [facts(1), wish(fact(0)), turn(0), wish(fact(0)), turn(1), wish(fact(0))]
        self.assertEqual(run(calls + [hope(k, 6, 1) for k in range(3)])[-3:], [[0, 0], [0, 1], [0, 1, 1]])

    def test_asked_again_behind_more_turns(self):
        calls = [facts(1), wish([7] * 3 + fact(0))]
        for number in (1, 0, 0):
            calls += [hope(0, 6, 1), turn(number)]
        calls += [hope(0, 6, 1), turn(1), hope(0, 6, 1), hope(0, 6, 0)]
        hopes = [answer for call, answer in zip(calls, run(calls)) if call[0] == 5]
        self.assertEqual(hopes, [[0, 1, 0, 0, 0, 1], [0, 1, 0, 0, 1], [0, 1, 0, 1], [0, 1, 1], [0, 1], [0, 0]])


class LongCourse(unittest.TestCase):
    def test_a_way_on_may_go_beyond_60(self):
        course = [0] * 60
        self.assertEqual(hoped(until(YES, fact(0)), 6, 1, 1, come=course), [0, 1, 1])
        self.assertEqual(hoped(until(YES, both(fact(0), nextly(nextly(YES)))), 6, 1, 1, come=course), [0, 1, 1, 0, 0])
        self.assertEqual(hoped(until(YES, [5] * 5 + fact(0)), 6, 1, 1, come=course), [0, 1, 1, 0, 0, 0, 0, 0])
        self.assertEqual(hoped(until(YES, [5] * 6 + fact(0)), 6, 1, 1, come=course), [0, 0])
        self.assertEqual(hoped(fact(0), 6, 1, 1, gone=course), [0, 1, 1])
        self.assertEqual(hoped([7] * 5 + fact(0), 6, 1, 1, gone=course), [0, 1, 0, 0, 0, 0, 0, 1])
        self.assertEqual(hoped(before(YES), 6, 1, 1, gone=course), [0, 1, 0])

    def test_behind_a_course_of_60_turns_hope_changes_nothing(self):
        calls = [facts(1), wish(until(YES, fact(0)))] + turns(*[0] * 60)
        self.assertEqual(run(calls + [hope(0, 6, 1), kept(0), turn(1), kept(0)])[-4:], [[0, 1, 1], [0, 0], [-5], [0, 0]])


class Refusals(unittest.TestCase):
    def test_n_out_of_range(self):
        for n in (-FAR, -1, 7, 8, FAR):
            for v in (0, 1):
                self.assertEqual(last(wish(YES), hope(0, n, v)), [-1])

    def test_v_out_of_range(self):
        for v in (-FAR, -1, 2, 3, FAR):
            for n in (0, 6):
                self.assertEqual(last(wish(YES), hope(0, n, v)), [-1])

    def test_none_such(self):
        for number in (-FAR, -1, 1, 2, FAR):
            self.assertEqual(last(wish(YES), hope(number, 6, 1)), [-4])
            self.assertEqual(last(wish(YES), hope(number, 0, 0)), [-4])
        self.assertEqual(last(hope(0, 3, 1)), [-4])

    def test_out_of_range_goes_ahead_of_none_such(self):
        for number in (-FAR, -1, 0, 1, FAR):
            self.assertEqual(last(hope(number, 7, 1)), [-1])
            self.assertEqual(last(hope(number, -1, 0)), [-1])
            self.assertEqual(last(hope(number, 3, 2)), [-1])
            self.assertEqual(last(hope(number, 3, -1)), [-1])

    def test_all_is_as_it_was_behind_a_hope_refused_or_not(self):
        told = [facts(2), wish(until(fact(0), fact(1))), scene(fact(0), fact(1))] + turns(1)
        asked = [hope(0, 6, 1), hope(0, 6, 0), hope(0, 7, 1), hope(1, 6, 1), hope(0, 0, 5)]
        more = [kept(0)] + turns(1, 2) + [kept(0), wish(YES), hope(0, 1, 0)]
        answer = run(told + asked + more)
        self.assertEqual(answer[4:9], [[0, 1, 2], [0, 1], [-1], [-4], [-1]])
        self.assertEqual(answer[:4] + answer[9:], run(told + more))


class AsThePlainReading(unittest.TestCase):
    def test_random_calls(self):
        source = seeded(4)
        for _ in range(300):
            fact_count = source.randrange(4)
            most = (6, 5, 3, 2)[fact_count]
            calls = [facts(fact_count)]
            for _ in range(source.randint(5, 30)):
                pick = source.random()
                if pick < 0.2:
                    calls.append(wish(some_condition(source, fact_count, source.randint(1, 12))))
                elif pick < 0.6:
                    calls.append(turn(source.randrange(2 ** fact_count)))
                elif pick < 0.7:
                    calls.append(kept(source.randrange(-1, 5)))
                else:
                    calls.append(hope(source.randrange(-1, 5), source.randint(0, most), source.randrange(2)))
            self.assertEqual(run(calls), plain_run(calls), calls)

    def test_ways_of_six_turns_do_what_they_should(self):
        source = seeded(6)
        found = 0
        for _ in range(300):
            row = some_condition(source, 3, 12)
            course = [source.randrange(8) for _ in range(source.randrange(5))]
            gone = source.randrange(len(course) + 1)
            for v in (0, 1):
                way = hoped(row, 6, v, 3, course[:gone], course[gone:])
                if way != [0, 0]:
                    found += 1
                    self.assertEqual(holds(row, course + way[2:], gone + 1), v == 1, (row, course, gone, way))
        self.assertGreater(found, 300)


class ManyHopes(unittest.TestCase):
    def test_a_line_full_of_hopes_for_which_there_is_no_way(self):
        # Each alone has 299593 ways on to try; all of them, one by one, would take hours.
        row = both(NEVER, either(within(20, fact(0)), either(within(20, fact(1)), within(20, fact(2)))))
        calls = [facts(3)] + [wish(row)] * 6
        for number in range(55):
            calls += [turn(number % 8)] + [hope(k, 6, 1) for k in range(6)]
        answer = run(calls)
        self.assertEqual(len(calls), 392)
        self.assertEqual({tuple(each) for call, each in zip(calls, answer) if call[0] == 5}, {(0, 0)})


if __name__ == "__main__":
    unittest.main()
