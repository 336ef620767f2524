"""The call scenes."""

import unittest

from tests.helper import (YES, before, fact, facts, hope, kept, last, nextly, no, plain_run, run, scene, scenes, seeded,
                          since, some_condition, turn, turns, wish)


def after_each_turn(begins, ends, course, gone=0):
    """What is answered for one scene, told behind so many turns: at once, and behind each turn then."""
    calls = [facts(2)] + turns(*course[:gone]) + [scene(begins, ends), scenes()]
    for number in course[gone:]:
        calls += [turn(number), scenes()]
    found = [answer for call, answer in zip(calls, run(calls)) if call == scenes()]
    assert all(answer[0] == 0 and len(answer) == 4 for answer in found), found
    return [tuple(answer[1:]) for answer in found]


class NoScene(unittest.TestCase):
    def test_none_at_all(self):
        self.assertEqual(last(scenes()), [0])
        self.assertEqual(last(facts(3), wish(YES), *turns(7, 0), scenes()), [0])

    def test_none_behind_refused_ones(self):
        self.assertEqual(last(scene(YES, []), scene(nextly(YES), YES), scene(fact(0), YES), scenes()), [0])


class OneScene(unittest.TestCase):
    def test_before_any_turn(self):
        self.assertEqual(after_each_turn(YES, YES, []), [(0, 0, 0)])
        self.assertEqual(after_each_turn(YES, YES, [0, 0, 0], 3), [(0, 0, 0)])

    def test_one_that_goes_on_keeps_the_place_at_which_it_began(self):
        self.assertEqual(after_each_turn(fact(0), fact(1), [0, 0, 1, 0, 1, 1]),
                         [(0, 0, 0), (0, 0, 0), (0, 0, 0), (1, 3, 1), (1, 3, 1), (1, 3, 1), (1, 3, 1)])

    def test_one_that_has_ended_has_place_0(self):
        self.assertEqual(after_each_turn(fact(0), fact(1), [1, 2, 0, 2]),
                         [(0, 0, 0), (1, 1, 1), (0, 0, 1), (0, 0, 1), (0, 0, 1)])

    def test_one_that_begins_again(self):
        self.assertEqual(after_each_turn(fact(0), fact(1), [1, 2, 0, 1, 0, 2, 1]),
                         [(0, 0, 0), (1, 1, 1), (0, 0, 1), (0, 0, 1), (1, 4, 2), (1, 4, 2), (0, 0, 2), (1, 7, 3)])

    def test_one_that_begins_and_ends_by_the_same_condition(self):
        self.assertEqual(after_each_turn(YES, YES, [0] * 5),
                         [(0, 0, 0), (1, 1, 1), (0, 0, 1), (1, 3, 2), (0, 0, 2), (1, 5, 3)])

    def test_one_that_never_begins(self):
        self.assertEqual(after_each_turn(no(YES), YES, [0, 3]), [(0, 0, 0)] * 3)

    def test_one_told_behind_some_turns(self):
        # Its places are those of the whole course, and what was gone counts for nothing but its conditions.
        self.assertEqual(after_each_turn(fact(0), fact(1), [1, 1, 0, 1, 2], 2),
                         [(0, 0, 0), (0, 0, 0), (1, 4, 1), (0, 0, 1)])
        self.assertEqual(after_each_turn(before(fact(0)), since(YES, fact(1)), [2, 1, 0, 0], 2),
                         [(0, 0, 0), (1, 3, 1), (0, 0, 1)])

    def test_over_60_turns(self):
        calls = [scene(YES, YES), scene(YES, no(YES))] + turns(*[0] * 59)
        calls += [scenes(), turn(0), scenes(), turn(0), scenes()]
        self.assertEqual(run(calls)[-5:], [[0, 1, 59, 30, 1, 1, 1], [0, 60, 0, 0, 1], [0, 0, 0, 30, 1, 1, 1], [-5],
                                           [0, 0, 0, 30, 1, 1, 1]])

    def test_one_that_begins_at_the_60th_turn(self):
        calls = [facts(1), scene(fact(0), YES)] + turns(*[0] * 59 + [1]) + [scenes()]
        self.assertEqual(last(*calls), [0, 1, 60, 1])


class SeveralScenes(unittest.TestCase):
    def test_in_the_order_of_their_numbers(self):
        calls = [facts(2), scene(fact(0), fact(1)), scene(fact(1), fact(0)), scene(no(YES), YES), scene(YES, no(YES))]
        self.assertEqual(last(*calls, *turns(0, 1, 2), scenes()), [0, 0, 0, 1, 1, 3, 1, 0, 0, 0, 1, 1, 1])

    def test_six_and_a_seventh_refused(self):
        calls = [scene(YES, no(YES))] * 3 + turns(0) + [scene(YES, no(YES))] * 4 + turns(0) + [scenes()]
        self.assertEqual(last(*calls), [0] + [1, 1, 1] * 3 + [1, 2, 1] * 3)

    def test_asking_changes_nothing_and_refused_calls_do_not_either(self):
        told = [facts(1), scene(fact(0), YES), turn(1)]
        more = [scenes(), turn(0), scenes(), turn(1), scenes()]
        answer = run(told + [scenes(), scenes(), turn(2), scene([], YES), facts(2), kept(0), hope(0, 7, 0)] + more)
        self.assertEqual(answer[3:10], [[0, 1, 1, 1], [0, 1, 1, 1], [-1], [-2], [-3], [-4], [-1]])
        self.assertEqual(answer[:3] + answer[10:], run(told + more))

    def test_as_the_plain_reading(self):
        source = seeded(11)
        for _ in range(200):
            fact_count = source.randrange(4)
            calls = [facts(fact_count)]
            for _ in range(40):
                pick = source.random()
                if pick < 0.15:
                    calls.append(scene(some_condition(source, fact_count, source.randint(1, 12), False),
                                       some_condition(source, fact_count, source.randint(1, 12), False)))
                elif pick < 0.7:
                    calls.append(turn(source.randrange(2 ** fact_count)))
                else:
                    calls.append(scenes())
            self.assertEqual(run(calls), plain_run(calls), calls)


if __name__ == "__main__":
    unittest.main()
