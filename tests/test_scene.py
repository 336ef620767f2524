"""The calls scene and turn: scenes that begin and end, and the course that grows."""

import unittest

from tests.helper import (FAR, YES, before, both, either, fact, facts, kept, last, nextly, no, plain_run, run, scene,
                          seeded, since, some_condition, turn, turns, wish)


def played(begins, ends, course, gone=0):
    """How one scene, told behind so many turns, fares at each turn then: how many began at it, and if it goes on."""
    calls = [facts(2)] + turns(*course[:gone]) + [scene(begins, ends)] + turns(*course[gone:])
    return [tuple(answer[2:]) for answer in run(calls)[gone + 2:]]


class Telling(unittest.TestCase):
    def test_scenes_are_numbered_from_0(self):
        self.assertEqual(run([scene(YES, YES), wish(YES), turn(0), scene(YES, no(YES))]),
                         [[0, 0], [0, 0], [0, 1, 1, 1], [0, 1]])

    def test_the_sixth_and_the_seventh(self):
        answer = run([scene(YES, YES)] * 8 + [turn(0)])
        self.assertEqual(answer, [[0, k] for k in range(6)] + [[-5], [-5], [0, 1, 6, 1, 1, 1, 1, 1, 1]])

    def test_no_condition_goes_ahead_of_no_place(self):
        full = [facts(1)] + [scene(YES, YES)] * 6
        for row in ([], [0, 0], [1, 1], nextly(YES), before(nextly(YES)), [2] * 12 + YES, [FAR], [-FAR]):
            for call in (scene(row, YES), scene(YES, row), scene(row, row)):
                self.assertEqual(last(facts(1), call), [-2])
                self.assertEqual(last(*full, call), [-2])
        self.assertEqual(last(*full, scene(fact(0), fact(0))), [-5])

    def test_no_place_for_scenes_is_still_one_for_wishes(self):
        self.assertEqual(run([scene(YES, YES)] * 7 + [wish(YES)])[-2:], [[-5], [0, 0]])

    def test_a_refused_scene_leaves_all_as_it_was(self):
        told = [facts(1), scene(fact(0), no(fact(0)))]
        more = turns(1, 0, 1) + [scene(YES, YES)] + turns(0, 1)
        answer = run(told + [scene(YES, []), scene([], YES), scene(YES, nextly(YES)), scene(fact(1), YES)] + more)
        self.assertEqual(answer[2:6], [[-2]] * 4)
        self.assertEqual(answer[:2] + answer[6:], run(told + more))

    def test_a_seventh_scene_leaves_all_as_it_was(self):
        told = [facts(1)] + [scene(fact(0), YES)] * 6
        more = turns(1, 1, 0, 1)
        answer = run(told + [scene(YES, YES)] + more)
        self.assertEqual(answer[7], [-5])
        self.assertEqual(answer[:7] + answer[8:], run(told + more))


class BeginningAndEnding(unittest.TestCase):
    def test_begins_and_ends_by_its_conditions(self):
        self.assertEqual(played(fact(0), fact(1), [0, 1, 0, 1, 2, 0]),
                         [(0, 0), (1, 1), (0, 1), (0, 1), (0, 0), (0, 0)])

    def test_at_first_it_does_not_go_on(self):
        self.assertEqual(played(no(YES), no(YES), [0, 3]), [(0, 0), (0, 0)])

    def test_does_not_end_at_the_turn_at_which_it_begins(self):
        self.assertEqual(played(fact(0), fact(0), [1, 0, 1, 0]), [(1, 1), (0, 1), (0, 0), (0, 0)])
        self.assertEqual(played(fact(0), fact(1), [3, 0, 2]), [(1, 1), (0, 1), (0, 0)])

    def test_does_not_begin_at_the_turn_at_which_it_ends(self):
        self.assertEqual(played(YES, YES, [0, 0, 0, 0, 0]), [(1, 1), (0, 0), (1, 1), (0, 0), (1, 1)])
        self.assertEqual(played(fact(0), fact(1), [1, 3, 0, 1]), [(1, 1), (0, 0), (0, 0), (1, 1)])

    def test_begins_again(self):
        self.assertEqual(played(fact(0), fact(1), [1, 2, 1, 2, 2, 1]),
                         [(1, 1), (0, 0), (1, 1), (0, 0), (0, 0), (1, 1)])

    def test_does_not_begin_while_it_goes_on(self):
        self.assertEqual(played(YES, no(YES), [0, 0, 0]), [(1, 1), (0, 1), (0, 1)])

    def test_looks_at_turns_gone_when_it_was_told(self):
        self.assertEqual(played(before(fact(0)), before(fact(1)), [1, 0, 2, 0], 1), [(1, 1), (0, 1), (0, 0)])
        self.assertEqual(played(since(YES, fact(0)), no(YES), [1, 0, 0], 1), [(1, 1), (0, 1)])
        self.assertEqual(played(YES, since(YES, fact(1)), [2, 0, 0], 1), [(1, 1), (0, 0)])
        self.assertEqual(played([5] * 3 + fact(0), [5] * 4 + fact(0), [1, 0, 0, 0, 0], 2), [(0, 0), (1, 1), (0, 0)])

    def test_its_conditions_go_along_while_they_are_not_asked(self):
        self.assertEqual(played(no(before(fact(0))), since(no(fact(1)), fact(0)), [0, 1, 0, 0]),
                         [(1, 1), (0, 0), (0, 0), (1, 1)])
        self.assertEqual(played(before(before(fact(1))), before(fact(0)), [2, 0, 0, 1, 2, 0, 0]),
                         [(0, 0), (0, 0), (1, 1), (0, 1), (0, 0), (0, 0), (1, 1)])

    def test_neither_begins_nor_ends_by_turns_gone_when_it_was_told(self):
        self.assertEqual(played(fact(0), fact(1), [1, 0, 1], 1), [(0, 0), (1, 1)])
        self.assertEqual(run([facts(1), turn(1), scene(fact(0), YES), turn(0)])[-1], [0, 2, 0, 0])

    def test_before_holds_at_no_first_turn(self):
        self.assertEqual(played(before(YES), YES, [0, 0]), [(0, 0), (1, 1)])
        self.assertEqual(played(no(before(YES)), YES, [0, 0, 0]), [(1, 1), (0, 0), (0, 0)])

    def test_how_many_began_and_which_go_on(self):
        calls = [facts(2), scene(fact(0), fact(1)), scene(fact(1), fact(0)), scene(both(fact(0), fact(1)), YES),
                 scene(no(either(fact(0), fact(1))), no(YES))]
        self.assertEqual(run(calls + turns(0, 1, 2, 3, 3, 0))[5:],
                         [[0, 1, 1, 0, 0, 0, 1], [0, 2, 1, 1, 0, 0, 1], [0, 3, 1, 0, 1, 0, 1],
                          [0, 4, 2, 1, 0, 1, 1], [0, 5, 1, 0, 1, 0, 1], [0, 6, 0, 0, 1, 0, 1]])

    def test_scenes_told_at_several_times(self):
        calls = [facts(1), scene(YES, no(YES)), turn(1), scene(YES, no(YES)), turn(0), turn(0)]
        self.assertEqual(run(calls)[2:], [[0, 1, 1, 1], [0, 1], [0, 2, 1, 1, 1], [0, 3, 0, 1, 1]])

    def test_as_the_plain_reading(self):
        source = seeded(3)
        for _ in range(200):
            fact_count = source.randrange(4)
            calls = [facts(fact_count)]
            for _ in range(30):
                if source.random() < 0.2:
                    calls.append(scene(some_condition(source, fact_count, source.randint(1, 12), False),
                                       some_condition(source, fact_count, source.randint(1, 12), False)))
                else:
                    calls.append(turn(source.randrange(2 ** fact_count)))
            self.assertEqual(run(calls), plain_run(calls), calls)


class Turn(unittest.TestCase):
    def test_places_from_1_on(self):
        self.assertEqual(run(turns(0, 0, 0)), [[0, 1, 0], [0, 2, 0], [0, 3, 0]])

    def test_range(self):
        for fact_count in range(4):
            most = 2 ** fact_count - 1
            for number in range(most + 1):
                self.assertEqual(last(facts(fact_count), turn(number)), [0, 1, 0])
            for number in (-FAR, -1, most + 1, most + 2, FAR):
                self.assertEqual(run([facts(fact_count), turn(number), turn(most)])[1:], [[-1], [0, 1, 0]])

    def test_the_60th_and_the_61st(self):
        answer = run([facts(1)] + turns(*[1] * 62))
        self.assertEqual(answer[1:61], [[0, place, 0] for place in range(1, 61)])
        self.assertEqual(answer[61:], [[-5], [-5]])

    def test_out_of_range_goes_ahead_of_no_place(self):
        full = [facts(1)] + turns(*[0] * 60)
        for number in (-FAR, -1, 2, FAR):
            self.assertEqual(last(*full, turn(number)), [-1])

    def test_a_refused_turn_leaves_all_as_it_was(self):
        told = [facts(1), scene(fact(0), YES), wish(fact(0))]
        more = [kept(0)] + turns(1, 1, 0) + [kept(0)]
        answer = run(told + turns(2, -1) + more)
        self.assertEqual(answer[3:5], [[-1], [-1]])
        self.assertEqual(answer[:3] + answer[5:], run(told + more))

    def test_a_61st_turn_leaves_all_as_it_was(self):
        calls = [facts(1), wish(nextly(fact(0)))] + turns(*[0] * 59) + [wish(nextly(fact(0))), wish(YES), turn(0)]
        calls += [wish(fact(0)), scene(YES, YES), turn(1), kept(0), kept(1), kept(2), kept(3), turn(1)]
        self.assertEqual(run(calls)[-6:], [[-5], [0, 0], [0, 0], [0, 1], [0, 0], [-5]])

    def test_scenes_over_60_turns(self):
        answer = run([scene(YES, YES)] + turns(*[0] * 61))
        self.assertEqual(answer[1:61], [[0, place, place % 2, place % 2] for place in range(1, 61)])
        self.assertEqual(answer[61], [-5])


if __name__ == "__main__":
    unittest.main()
