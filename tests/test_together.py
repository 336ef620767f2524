"""The call together."""

import unittest

from tests.helper import (FAR, YES, before, both, either, fact, facts, kept, last, no, plain_run, run, scene, scenes,
                          seeded, since, some_condition, together, told_course, tree, turn, turns, wish)

NEVER = no(YES)


def asked(a, b, n, fact_count=2, gone=(), come=()):
    """What is answered for two scenes told behind some turns, with some more come then."""
    calls = [facts(fact_count)] + turns(*gone) + [scene(*a), scene(*b)] + turns(*come)
    answer = run(calls + [together(0, 1, n), together(1, 0, n)])
    assert all(each[0] == 0 for each in answer), answer
    assert answer[-1] == answer[-2], answer[-2:]
    return answer[-1]


def value_after(node, turn_number, old, path, new):
    """Whether a condition that looks back only holds at a turn, told from what held at the turn before."""
    kind, number, inner = node
    at = [value_after(each, turn_number, old, path + (k,), new) for k, each in enumerate(inner)]
    if kind == 0:
        found = True
    elif kind == 1:
        found = turn_number // 2 ** number % 2 == 1
    elif kind == 2:
        found = not at[0]
    elif kind in (3, 4):
        found = all(at) if kind == 3 else any(at)
    elif kind == 5:
        found = old is not None and old[path + (0,)]
    else:
        found = at[1] or at[0] and old is not None and old[path]
    new[path] = found
    return found


class State:
    """Two scenes and what holds of their conditions, one turn behind another."""

    def __init__(self, pair):
        self.nodes = [tree(row)[0] for rows in pair for row in rows]
        self.held = [None] * 4
        self.on = [False, False]

    def behind(self, turn_number, told=True):
        later = State.__new__(State)
        later.nodes = self.nodes
        later.held = [{} for _ in self.nodes]
        so = [value_after(node, turn_number, old, (), new)
              for node, old, new in zip(self.nodes, self.held, later.held)]
        later.on = [not so[2 * k + 1] if self.on[k] else so[2 * k] for k in range(2)] if told else [False, False]
        return later

    def key(self):
        return tuple(self.on), tuple([held and tuple(held.values()) for held in self.held])


def first_way_by_states(pair, fact_count, gone, come, n):
    """The first way of at most n turns, found by going on from each different state once."""
    state = State(pair)
    for number in gone:
        state = state.behind(number, told=False)
    for number in come:
        state = state.behind(number)
    layer, seen = [((), state)], {state.key()}
    for length in range(n + 1):
        for way, state in layer:
            if all(state.on):
                return [0, 1] + list(way)
        later = []
        for way, state in layer if length < n else []:
            for number in range(2 ** fact_count):
                grown = state.behind(number)
                if grown.key() not in seen:
                    seen.add(grown.key())
                    later.append((way + (number,), grown))
        layer = later
    return [0, 0]


class FirstWay(unittest.TestCase):
    def test_two_that_go_on_already(self):
        for n in range(7):
            self.assertEqual(asked((YES, NEVER), (YES, NEVER), n, come=(0,)), [0, 1])
            self.assertEqual(asked((fact(0), fact(1)), (fact(0), YES), n, come=(1,)), [0, 1])
            self.assertEqual(asked((fact(0), YES), (fact(1), YES), n, come=(3,)), [0, 1])
            self.assertEqual(asked((fact(0), NEVER), (fact(1), YES), n, come=(1, 0, 2)), [0, 1])

    def test_none_goes_on_before_the_first_turn(self):
        self.assertEqual(asked((YES, YES), (YES, YES), 0), [0, 0])
        for n in range(1, 7):
            self.assertEqual(asked((YES, YES), (YES, YES), n), [0, 1, 0])

    def test_n_0(self):
        self.assertEqual(asked((fact(0), YES), (fact(0), YES), 0), [0, 0])
        self.assertEqual(asked((fact(0), NEVER), (fact(1), NEVER), 0, come=(1,)), [0, 0])
        self.assertEqual(asked((fact(0), NEVER), (fact(1), NEVER), 0, come=(1, 2)), [0, 1])

    def test_the_same_scene_twice(self):
        calls = [facts(2), scene(fact(1), fact(0)), scene(NEVER, YES)]
        self.assertEqual(last(*calls, together(0, 0, 6)), [0, 1, 2])
        self.assertEqual(last(*calls, turn(2), together(0, 0, 6)), [0, 1])
        self.assertEqual(last(*calls, turn(2), together(0, 0, 0)), [0, 1])
        self.assertEqual(last(*calls, *turns(2, 3), together(0, 0, 6)), [0, 1, 2])
        self.assertEqual(last(*calls, together(0, 0, 0)), [0, 0])
        self.assertEqual(last(*calls, together(1, 1, 6)), [0, 0])

    def test_of_at_most_n_turns(self):
        for length in range(1, 8):
            rows = ([5] * (length - 1) + fact(0), NEVER)
            for n in range(7):
                expected = [0, 1, 1] + [0] * (length - 1) if length <= n else [0, 0]
                self.assertEqual(asked(rows, (YES, NEVER), n), expected, (length, n))

    def test_n_6_with_each_number_of_facts(self):
        for fact_count in range(4):
            sixth = ([5] * 5 + YES, NEVER)
            self.assertEqual(asked(sixth, sixth, 6, fact_count), [0, 1] + [0] * 6)
            self.assertEqual(asked(sixth, sixth, 5, fact_count), [0, 0])
            self.assertEqual(asked(([5] * 6 + YES, NEVER), sixth, 6, fact_count), [0, 0])
        all_three = both(fact(0), both(fact(1), fact(2)))
        self.assertEqual(asked((both([5] * 5 + YES, all_three), NEVER), (YES, NEVER), 6, 3), [0, 1] + [0] * 5 + [7])
        self.assertEqual(asked((both([5] * 5 + YES, fact(1)), NEVER), ([5] * 3 + all_three, NEVER), 6, 3),
                         [0, 1, 0, 0, 7, 0, 0, 2])

    def test_each_turn_of_a_way_of_six(self):
        first = both([5] * 5 + fact(2), [5] * 3 + fact(0))
        second = both(fact(1), both([5] * 4 + fact(1), before(fact(2))))
        self.assertEqual(asked((first, NEVER), (second, NEVER), 6, 3), [0, 1, 4, 2, 1, 0, 4, 2])

    def test_the_fewest_turns_go_ahead_of_lower_numbers(self):
        self.assertEqual(asked((either(fact(1), before(YES)), NEVER), (YES, NEVER), 6), [0, 1, 2])
        self.assertEqual(asked((either(both(fact(0), fact(1)), before(before(YES))), NEVER), (YES, NEVER), 6),
                         [0, 1, 3])

    def test_of_as_many_turns_the_first_in_order(self):
        self.assertEqual(asked((either(fact(0), fact(1)), NEVER), (YES, NEVER), 6), [0, 1, 1])
        self.assertEqual(asked((fact(0), NEVER), (fact(1), NEVER), 6), [0, 1, 3])
        self.assertEqual(asked((no(fact(0)), NEVER), (fact(1), NEVER), 6), [0, 1, 2])
        self.assertEqual(asked((before(fact(1)), NEVER), (fact(0), NEVER), 6), [0, 1, 2, 1])
        self.assertEqual(asked((before(either(fact(0), fact(1))), NEVER), (either(fact(0), fact(1)), NEVER), 6),
                         [0, 1, 1, 0])

    def test_the_first_turn_counts_ahead_of_the_second(self):
        rows = (either(both(fact(0), before(fact(1))), both(fact(1), before(both(fact(0), no(fact(1)))))), NEVER)
        self.assertEqual(asked(rows, (before(YES), NEVER), 6), [0, 1, 1, 2])

    def test_of_four_turns_and_more_the_first_in_order(self):
        # The first by its first turn, whatever the later ones are.
        early = both([5] * 3 + fact(0), fact(1))
        late = [5] * 3 + fact(1)
        self.assertEqual(asked((either(early, late), NEVER), (YES, NEVER), 6), [0, 1, 1, 0, 0, 2])
        self.assertEqual(asked((late, NEVER), (YES, NEVER), 6), [0, 1, 2, 0, 0, 0])
        self.assertEqual(asked((both([5] * 4 + YES, either(before(fact(1)), fact(0))), NEVER), (YES, NEVER), 6),
                         [0, 1, 0, 0, 0, 0, 1])
        self.assertEqual(asked((both([5] * 4 + YES, before(before(fact(1)))), NEVER), (YES, NEVER), 6),
                         [0, 1, 0, 0, 2, 0, 0])

    def test_two_that_never_go_on_together(self):
        for n in range(7):
            self.assertEqual(asked((NEVER, YES), (YES, YES), n), [0, 0])
            self.assertEqual(asked((NEVER, YES), (NEVER, YES), n), [0, 0])
            self.assertEqual(asked((fact(0), no(fact(0))), (no(fact(0)), fact(0)), n), [0, 0])
            # At odd places the one goes on, at even ones the other.
            self.assertEqual(asked((YES, YES), (before(YES), YES), n, come=(0,)), [0, 0])

    def test_one_ends_where_the_other_begins(self):
        one, other = (fact(0), fact(1)), (fact(1), fact(0))
        self.assertEqual(asked(one, other, 6), [0, 1, 3])
        self.assertEqual(asked(one, other, 6, come=(1,)), [0, 0])
        self.assertEqual(asked(one, other, 6, come=(2,)), [0, 0])
        self.assertEqual(asked(one, other, 6, come=(3,)), [0, 1])
        self.assertEqual(asked((fact(0), fact(1)), (fact(1), NEVER), 6, come=(1,)), [0, 1, 2, 1])
        self.assertEqual(asked((fact(0), fact(1)), (fact(1), NEVER), 1, come=(1,)), [0, 0])

    def test_it_does_not_end_at_the_turn_at_which_it_begins_nor_begin_where_it_ends(self):
        self.assertEqual(asked((fact(0), fact(0)), (both(fact(0), fact(1)), YES), 6), [0, 1, 3])
        self.assertEqual(asked((YES, YES), (before(YES), NEVER), 6), [0, 1, 0, 0, 0])
        self.assertEqual(asked((YES, fact(0)), (fact(0), fact(0)), 6, come=(0,)), [0, 1, 1, 0])

    def test_one_has_to_end_and_begin_again(self):
        self.assertEqual(asked((fact(0), fact(0)), (since(NEVER, both(before(fact(0)), fact(0))), NEVER), 6),
                         [0, 1, 1, 1, 1])


class Past(unittest.TestCase):
    def test_looks_at_turns_gone_before_the_scenes_were_told(self):
        self.assertEqual(asked((before(fact(0)), NEVER), (before(fact(1)), NEVER), 6, gone=(3,)), [0, 1, 0])
        self.assertEqual(asked((before(fact(0)), NEVER), (before(fact(1)), NEVER), 6, gone=(3, 0)), [0, 1, 3, 0])
        self.assertEqual(asked((since(YES, fact(0)), NEVER), (since(YES, fact(1)), NEVER), 6, gone=(1, 2, 0)),
                         [0, 1, 0])
        fact_1_alone = (both(fact(1), no(fact(0))), NEVER)
        self.assertEqual(asked((since(no(fact(1)), fact(0)), NEVER), fact_1_alone, 6, gone=(1, 0)), [0, 1, 0, 2])
        self.assertEqual(asked((since(no(fact(1)), fact(0)), NEVER), fact_1_alone, 6, gone=(1, 2)), [0, 1, 1, 2])
        self.assertEqual(asked((since(no(fact(1)), fact(0)), NEVER), fact_1_alone, 1, gone=(1, 0)), [0, 0])
        self.assertEqual(asked(([5] * 6 + fact(0), NEVER), (YES, NEVER), 6, gone=(1, 0)), [0, 1] + [0] * 5)
        self.assertEqual(asked(([5] * 6 + fact(0), NEVER), (YES, NEVER), 4, gone=(1, 0)), [0, 0])
        self.assertEqual(asked(([5] * 6 + fact(0), NEVER), (YES, NEVER), 6), [0, 0])

    def test_ends_by_turns_gone_before(self):
        self.assertEqual(asked((YES, since(YES, fact(0))), (fact(1), NEVER), 6, gone=(1,), come=(0,)), [0, 1, 0, 2])
        self.assertEqual(asked((YES, before(before(fact(0)))), (before(before(before(YES))), NEVER), 6, gone=(1, 1),
                               come=(0,)), [0, 1, 0, 0])

    def test_does_not_begin_by_turns_gone_before(self):
        self.assertEqual(asked((fact(0), NEVER), (fact(1), NEVER), 0, gone=(3,)), [0, 0])
        self.assertEqual(asked((no(before(YES)), NEVER), (YES, NEVER), 6, gone=(3,)), [0, 0])
        self.assertEqual(asked((no(before(YES)), NEVER), (YES, NEVER), 6), [0, 1, 0])

    def test_scenes_told_at_several_times(self):
        calls = [facts(1), scene(fact(0), NEVER), turn(1), scene(fact(0), NEVER), scene(before(fact(0)), NEVER)]
        asking = [together(0, 1, 6), together(0, 2, 6), together(1, 2, 6), together(0, 0, 6)]
        self.assertEqual(run(calls + asking)[-4:], [[0, 1, 1], [0, 1, 0], [0, 1, 1], [0, 1]])

    def test_behind_the_60th_turn(self):
        course = [0] * 60
        self.assertEqual(asked((YES, NEVER), (fact(0), NEVER), 6, 1, come=course), [0, 1, 1])
        self.assertEqual(asked((fact(0), NEVER), (before(before(fact(0))), NEVER), 6, 1, come=course), [0, 1, 1, 0, 0])
        self.assertEqual(asked(([5] * 5 + fact(0), NEVER), (YES, NEVER), 6, 1, come=course), [0, 1, 1, 0, 0, 0, 0, 0])
        self.assertEqual(asked(([5] * 5 + fact(0), NEVER), (YES, NEVER), 5, 1, come=course), [0, 0])
        self.assertEqual(asked((YES, NEVER), (before(YES), NEVER), 6, 1, gone=course), [0, 1, 0])
        self.assertEqual(asked(([5] * 7 + fact(0), NEVER), (YES, NEVER), 6, 1, gone=course[:58] + [1, 0]),
                         [0, 1] + [0] * 6)

    def test_behind_the_60th_turn_it_changes_nothing(self):
        calls = [facts(1), scene(fact(0), YES)] + turns(*[0] * 60)
        self.assertEqual(run(calls + [together(0, 0, 6), turn(1), scenes(), together(0, 0, 6)])[-4:],
                         [[0, 1, 1], [-5], [0, 0, 0, 0], [0, 1, 1]])


class Refusals(unittest.TestCase):
    two = [facts(1), scene(YES, YES), scene(YES, YES)]

    def test_n_out_of_range(self):
        for n in (-FAR, -1, 7, 8, FAR):
            self.assertEqual(last(*self.two, together(0, 1, n)), [-1])
            self.assertEqual(last(*self.two, turn(0), together(0, 0, n)), [-1])

    def test_none_such(self):
        for number in (-FAR, -1, 2, 3, FAR):
            for n in (0, 6):
                self.assertEqual(last(*self.two, together(number, 0, n)), [-4])
                self.assertEqual(last(*self.two, together(1, number, n)), [-4])
                self.assertEqual(last(*self.two, together(number, number, n)), [-4])
        for n in (0, 6):
            self.assertEqual(last(together(0, 0, n)), [-4])
            self.assertEqual(last(wish(YES), together(0, 0, n)), [-4])

    def test_the_sixth_and_the_seventh(self):
        calls = [scene(YES, NEVER)] * 7 + [turn(0), together(0, 5, 0), together(5, 5, 0), together(0, 6, 0)]
        self.assertEqual(run(calls)[-3:], [[0, 1], [0, 1], [-4]])

    def test_n_out_of_range_goes_ahead_of_none_such(self):
        for number in (-FAR, -1, 0, 2, FAR):
            for n in (-FAR, -1, 7, FAR):
                self.assertEqual(last(together(number, number, n)), [-1])
                self.assertEqual(last(*self.two, together(number, 5, n)), [-1])
                self.assertEqual(last(*self.two, together(5, number, n)), [-1])

    def test_all_is_as_it_was_behind_it_refused_or_not(self):
        told = [facts(2), scene(fact(0), fact(1)), scene(before(fact(0)), fact(1)), wish(since(YES, fact(0)))]
        asking = [together(0, 1, 6), together(1, 0, 1), together(0, 1, 7), together(0, 2, 6), together(2, 0, -1)]
        more = [scenes(), kept(0), turn(1), scenes(), turn(0), scenes(), told_course(), kept(0), together(0, 1, 0)]
        answer = run(told + asking + more)
        self.assertEqual(answer[4:9], [[0, 1, 1, 0], [0, 0], [-1], [-4], [-1]])
        self.assertEqual(answer[:4] + answer[9:], run(told + more))

    def test_asked_again_behind_more_turns(self):
        calls = [facts(1), scene([5] * 3 + fact(0), NEVER)]
        for number in (1, 0, 0):
            calls += [together(0, 0, 6), turn(number)]
        calls += [together(0, 0, 6), turn(1), together(0, 0, 6)]
        found = [answer for call, answer in zip(calls, run(calls)) if call[0] == 7]
        self.assertEqual(found, [[0, 1, 1, 0, 0, 0], [0, 1, 0, 0, 0], [0, 1, 0, 0], [0, 1, 0], [0, 1]])


class AsThePlainReading(unittest.TestCase):
    def test_random_calls(self):
        source = seeded(21)
        for _ in range(1000):
            fact_count = source.randrange(4)
            most = (6, 5, 3, 2)[fact_count]
            calls = [facts(fact_count)]
            for _ in range(source.randint(5, 25)):
                pick = source.random()
                if pick < 0.25:
                    calls.append(scene(some_condition(source, fact_count, source.randint(1, 12), False),
                                       some_condition(source, fact_count, source.randint(1, 12), False)))
                elif pick < 0.6:
                    calls.append(turn(source.randrange(2 ** fact_count)))
                else:
                    calls.append(together(source.randrange(-1, 5), source.randrange(-1, 5), source.randint(-1, most)))
            self.assertEqual(run(calls), plain_run(calls), calls)

    def test_ways_of_up_to_six_turns_by_states(self):
        source = seeded(22)
        lengths = {}
        for _ in range(300):
            fact_count = source.randint(1, 3)
            pair = [(deep_condition(source, fact_count), some_condition(source, fact_count, 12, False))
                    for _ in range(2)]
            gone = [source.randrange(2 ** fact_count) for _ in range(source.randrange(3))]
            come = [source.randrange(2 ** fact_count) for _ in range(source.randrange(3))]
            answer = asked(pair[0], pair[1], 6, fact_count, gone, come)
            self.assertEqual(answer, first_way_by_states(pair, fact_count, gone, come, 6), (pair, gone, come))
            length = None if answer == [0, 0] else len(answer) - 2
            lengths[length] = lengths.get(length, 0) + 1
        # The comparison is worth something only where ways of each length are met, and none at all.
        for length in (None, 0, 1, 2, 3, 4, 5, 6):
            self.assertGreater(lengths.get(length, 0), 2, lengths)


def deep_condition(source, fact_count):
    """A condition that takes some turns to hold: facts some turns ago, at once."""
    depth = source.randint(0, 5)
    row = [5] * depth + some_condition(source, fact_count, 3, False)
    if source.random() < 0.5:
        row = both(row, some_condition(source, fact_count, 11 - depth - 3, False))
    return row


class ManyTogether(unittest.TestCase):
    def test_a_line_full_of_scenes_that_never_go_on_together(self):
        # Each alone has 299593 ways on to try.
        begins = [3, 2, 0, 6] + before(before(fact(0))) + [6] + before(fact(1)) + before(fact(2))
        ends = [6] + before(before(before(before(fact(1))))) + since(before(before(fact(2))), before(fact(0)))
        calls = [facts(3)] + [scene(begins, ends)] * 6
        for number in range(55):
            calls += [turn(number * 5 % 8)] + [together(k, (k + number) % 6, 6) for k in range(6)]
        answer = run(calls)
        self.assertEqual(len(calls), 392)
        self.assertEqual({tuple(each) for call, each in zip(calls, answer) if call[0] == 7}, {(0, 0)})


if __name__ == "__main__":
    unittest.main()
