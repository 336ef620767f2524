"""How a list of calls is read and what is given back."""

import time
import unittest

from sceneturns.story import answers
from tests.helper import (FAR, YES, before, fact, facts, holds_at, hope, is_condition, kept, last, nextly, no,
                          plain_run, run, scene, scenes, seeded, show, since, some_condition, together, told_course,
                          turn, until, wish, within)

ALL_KINDS = [facts(2), wish(until(fact(0), fact(1))), scene(fact(0), fact(1)), scene(before(fact(0)), no(YES)), turn(1),
             turn(4), kept(0), hope(0, 6, 1), scenes(), together(0, 1, 6), told_course(), holds_at(1, nextly(YES)),
             show(0), hope(0, 7, 1), together(0, 2, 6), holds_at(2, []), holds_at(1, []), show(1)]


def flat(calls):
    return [number for call in calls for number in call]


class Reading(unittest.TestCase):
    def test_each_answer_has_its_count_before_it(self):
        calls = [0, 1, 1, 2, 1, 0, 2, 2, 1, 0, 1, 0, 3, 1, 4, 0, 5, 0, 1, 0, 3, 9]
        given = [1, 0, 2, 0, 0, 2, 0, 0, 4, 0, 1, 1, 1, 2, 0, 1, 2, 0, 0, 1, -1]
        self.assertEqual(answers(calls), given)

    def test_each_answer_of_the_calls_that_only_ask_has_its_count_before_it(self):
        calls = [6, 8, 7, 0, 0, 6, 9, 1, 1, 0, 10, 0, 0, 1, 1, 2, 1, 0, 2, 2, 1, 0, 1, 0, 6, 3, 1, 3, 0, 3, 1,
                 6, 7, 0, 0, 0, 8, 9, 2, 3, 2, 1, 0, 10, 0, 7, 0, 0, 9]
        given = [1, 0, 1, 0, 1, -4, 1, -1, 1, -4, 1, 0, 2, 0, 0, 2, 0, 0, 4, 0, 0, 0, 0,
                 4, 0, 1, 1, 1, 4, 0, 2, 0, 0, 4, 0, 3, 1, 1, 4, 0, 1, 3, 2, 2, 0, 1, 4, 0, 1, 0, 1, 2, 0, 1,
                 4, 0, 0, 1, 0, 1, -1]
        self.assertEqual(answers(calls), given)

    def test_rows_are_as_long_as_told(self):
        self.assertEqual(answers([1, 0, 1, 1, 0, 2, 0, 0, 2, 1, 0, 0, 2, 0, 1, 0, 2, 1, 0, 1, 0]),
                         [1, -2, 2, 0, 0, 1, -2, 1, -2, 1, -2, 2, 0, 0])

    def test_a_row_of_100_numbers_is_read_whole(self):
        for row in ([0] * 100, [2] * 100, [FAR] * 100, [-FAR] * 100):
            self.assertEqual(run([wish(row), scene(row, YES), scene(YES, row), scene(row, row), turn(0)]),
                             [[-2], [-2], [-2], [-2], [0, 1, 0]])
            self.assertEqual(run([holds_at(1, row), turn(0), holds_at(1, row), holds_at(2, row), told_course()]),
                             [[-1], [0, 1, 0], [-2], [-1], [0, 0]])

    def test_what_stands_in_a_refused_row_is_no_call(self):
        self.assertEqual(run([wish([3, 0, 3, 0]), scene([1, 3], [3, 0]), turn(0)]), [[-2], [-2], [0, 1, 0]])
        self.assertEqual(run([holds_at(1, [3, 0, 8]), turn(0), holds_at(1, [3, 0, 8]), told_course()]),
                         [[-1], [0, 1, 0], [-2], [0, 0]])

    def test_any_call_may_come_first(self):
        self.assertEqual(last(facts(3)), [0])
        self.assertEqual(last(wish(YES)), [0, 0])
        self.assertEqual(last(scene(YES, YES)), [0, 0])
        self.assertEqual(last(turn(0)), [0, 1, 0])
        self.assertEqual(last(kept(0)), [-4])
        self.assertEqual(last(hope(0, 0, 0)), [-4])
        self.assertEqual(last(scenes()), [0])
        self.assertEqual(last(together(0, 0, 0)), [-4])
        self.assertEqual(last(told_course()), [0])
        self.assertEqual(last(holds_at(1, YES)), [-1])
        self.assertEqual(last(show(0)), [-4])

    def test_400_calls(self):
        self.assertEqual(run([facts(2)] * 400), [[0]] * 400)
        most = [wish([0] * 100)] * 400
        self.assertEqual(run(most), [[-2]] * 400)

    def test_whole_numbers_and_never_true_or_false(self):
        given = answers(flat(ALL_KINDS))
        self.assertIs(type(given), list)
        self.assertEqual({type(number) for number in given}, {int})


class HandedIn(unittest.TestCase):
    def setUp(self):
        self.calls = flat(ALL_KINDS)

    def test_the_list_is_the_same_behind_the_call(self):
        as_it_was = list(self.calls)
        answers(self.calls)
        self.assertEqual(self.calls, as_it_was)

    def test_the_list_is_not_changed_for_a_while_either(self):
        class Watched(list):
            def refuse(self, *told):
                raise AssertionError("what was handed in is changed")

            append = clear = extend = insert = pop = remove = reverse = sort = refuse
            __setitem__ = __delitem__ = __iadd__ = __imul__ = refuse

        self.assertEqual(answers(Watched(self.calls)), answers(self.calls))

    def test_the_same_list_is_answered_the_same(self):
        self.assertEqual(run(ALL_KINDS),
                         [[0], [0, 0], [0, 0], [0, 1], [0, 1, 1, 1, 0], [-1], [0, 0], [0, 1, 2], [0, 1, 1, 1, 0, 0, 0],
                          [0, 1, 0], [0, 1], [0, 0], [0, 0, 8, 1, 0, 1, 1], [-1], [-4], [-1], [-2], [-4]])
        first = answers(self.calls)
        self.assertEqual(answers(self.calls), first)
        answers(flat([facts(3), scene(YES, YES), wish(YES), turn(7), together(0, 0, 6)]))
        self.assertEqual(answers(self.calls), first)

    def test_what_is_given_back_is_the_callers_own(self):
        first = answers(self.calls)
        expected = list(first)
        first.clear()
        self.assertEqual(answers(self.calls), expected)

    def test_two_times_in_a_row_do_not_know_of_one_another(self):
        self.assertEqual(run([facts(3), wish(fact(2)), scene(YES, YES), turn(7)]), [[0], [0, 0], [0, 0], [0, 1, 1, 1]])
        self.assertEqual(run([turn(1)]), [[-1]])
        self.assertEqual(run([kept(0), hope(0, 0, 1)]), [[-4], [-4]])
        self.assertEqual(run([wish(fact(0))]), [[-2]])
        self.assertEqual(run([facts(1), turn(0), scene(YES, YES), wish(YES)]), [[0], [0, 1, 0], [0, 0], [0, 0]])
        self.assertEqual(run([scenes(), told_course(), show(0), together(0, 0, 1)]), [[0], [0], [-4], [-4]])


class AllKinds(unittest.TestCase):
    def test_random_calls_of_all_kinds_as_the_plain_reading(self):
        source = seeded(31)
        for _ in range(300):
            fact_count = source.randrange(4)
            calls = [facts(fact_count)] + [some_call(source, fact_count) for _ in range(source.randint(1, 40))]
            self.assertEqual(run(calls), plain_run(calls), calls)

    def test_400_calls_with_all_eleven_kinds_in_a_short_time(self):
        calls = heavy_line()
        self.assertEqual(len(calls), 400)
        self.assertEqual({call[0] for call in calls}, set(range(11)))
        self.assertLessEqual(len(flat(calls)), 17000)
        start = time.process_time()
        answer = run(calls)
        # Far more than it takes, so that a slow machine doesn't fail, and far less than trying each way on by itself.
        self.assertLess(time.process_time() - start, 20)
        self.assertEqual({tuple(each) for call, each in zip(calls, answer) if call[0] in (5, 7)}, {(0, 0)})
        self.assertTrue(all(each[0] == 0 for each in answer))
        self.assertEqual(answer[-1], [0] + [number * 5 % 8 for number in range(60)])


def some_row(source, fact_count, forward=True):
    return some_condition(source, source.choice([fact_count] * 9 + [3]), source.randint(1, 13), forward)


def some_call(source, fact_count):
    kind = source.choice([0, 1, 2, 2] + [3] * 8 + [4, 5, 6, 7, 7, 8, 9, 9, 10])
    most = (6, 4, 3, 2)[fact_count]
    number = source.randrange(-1, 4)
    if kind == 1:
        return wish(some_row(source, fact_count))
    if kind == 2:
        forward = source.random() < 0.1
        return scene(some_row(source, fact_count, forward), some_row(source, fact_count, forward))
    if kind == 3:
        return turn(source.randrange(-1, 2 ** fact_count + 1))
    if kind == 5:
        return hope(number, source.randint(-1, most), source.choice([-1, 0, 0, 1, 1, 2]))
    if kind == 7:
        return together(number, source.randrange(-1, 3), source.randint(-1, most))
    if kind == 9:
        return holds_at(source.randint(0, 12), some_row(source, fact_count))
    return [kind] if kind in (6, 8) else [kind, number]


def heavy_line():
    """60 turns with six wishes and six scenes, and behind each turn hopes and scenes for which there is no way."""
    never = [3, 2, 0, 4] + within(20, fact(0)) + [4] + within(20, fact(1)) + until(fact(2), fact(0))
    begins = [3, 2, 0, 6] + before(before(fact(0))) + [6] + before(fact(1)) + before(fact(2))
    ends = [6] + before(before(before(before(fact(1))))) + since(before(before(fact(2))), before(fact(0)))
    assert is_condition(never, 3) and is_condition(begins, 3) and is_condition(ends, 3)
    calls = [facts(3)] + [wish(never)] * 6 + [scene(begins, ends)] * 6
    for place in range(60):
        calls += [turn(place * 5 % 8), hope(place % 6, 6, 1), together(place % 6, place // 6 % 6, 6)]
        calls += [together(place % 5, 5, 6), holds_at(place // 2 + 1, never), [scenes(), kept(0), show(5)][place % 3]]
    calls += [hope(k % 6, 6, 1) for k in range(13)] + [together(k % 6, 0, 6) for k in range(13)] + [told_course()]
    return calls


if __name__ == "__main__":
    unittest.main()
