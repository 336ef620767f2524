"""Which rows are conditions, and which of these look back only."""

import unittest

from tests.helper import (FAR, INNER, YES, before, both, either, fact, facts, is_condition, last, nextly, no, run,
                          scene, seeded, since, some_condition, until, wish, within)


def is_taken(row, fact_count=3):
    answer = last(facts(fact_count), wish(row))
    if answer == [0, 0]:
        return True
    assert answer == [-2], answer
    return False


def is_taken_by_scene(begins, ends):
    answer = last(facts(3), scene(begins, ends))
    if answer == [0, 0]:
        return True
    assert answer == [-2], answer
    return False


ONE_OF_EACH = [YES, fact(2), no(YES), both(fact(0), YES), either(YES, fact(1)), before(fact(0)),
               since(fact(0), fact(1)), nextly(fact(0)), until(fact(0), YES), within(3, fact(0))]


class Whole(unittest.TestCase):
    def test_one_of_each(self):
        for row in ONE_OF_EACH:
            self.assertTrue(is_taken(row), row)

    def test_empty(self):
        self.assertFalse(is_taken([]))

    def test_cut_off_anywhere(self):
        for row in ONE_OF_EACH + [both(within(4, until(YES, fact(0))), since(before(fact(1)), YES))]:
            for length in range(len(row)):
                self.assertFalse(is_taken(row[:length]), row[:length])

    def test_a_number_too_many(self):
        for row in ONE_OF_EACH:
            for number in (0, 1, -1, 5, FAR, -FAR):
                self.assertFalse(is_taken(row + [number]), row)
            self.assertFalse(is_taken(row + row), row)

    def test_no_such_kind(self):
        for kind in (-1, 10, 11, -FAR, FAR):
            for row in ([kind], [kind, 0], [kind, 0, 0], no([kind]), both([kind], YES), both(YES, [kind]),
                        before([kind]), within(1, [kind])):
                self.assertFalse(is_taken(row), row)

    def test_all_short_rows(self):
        for length in range(1, 4):
            for code in range(13 ** length):
                row = [code // 13 ** place % 13 - 1 for place in range(length)]
                self.assertEqual(is_taken(row, 1), is_condition(row, 1), row)

    def test_rows_with_one_number_changed(self):
        source = seeded(5)
        for _ in range(1500):
            row = some_condition(source, 2, 12)
            row[source.randrange(len(row))] = source.choice([-1, 0, 1, 2, 3, 4, 5, 6, 7, 8, 9, 10, 20, 21, FAR, -FAR])
            self.assertEqual(is_taken(row, 2), is_condition(row, 2), row)


class HowMany(unittest.TestCase):
    def test_twelve_in_all_one_under_another(self):
        for kind in (2, 5, 7):
            self.assertTrue(is_taken([kind] * 10 + no(YES)))
            self.assertTrue(is_taken([kind] * 11 + YES))
            self.assertFalse(is_taken([kind] * 12 + YES))
            self.assertFalse(is_taken([kind] * 99 + YES))
        self.assertTrue(is_taken([9, 20] * 11 + fact(0)))
        self.assertFalse(is_taken([9, 20] * 12 + fact(0)))

    def test_twelve_in_all_side_by_side(self):
        for kind in (3, 4, 6, 8):
            eleven = [kind] * 5 + fact(0) * 6
            self.assertTrue(is_taken(eleven))
            self.assertTrue(is_taken(no(eleven)))
            self.assertFalse(is_taken(no(no(eleven))))
            self.assertFalse(is_taken([kind] * 6 + YES * 7))
            self.assertTrue(is_taken([kind, 0] * 5 + no(YES)))
            self.assertFalse(is_taken([kind, 0] * 6 + YES))

    def test_the_numbers_of_fact_and_within_are_no_conditions(self):
        self.assertTrue(is_taken([3] * 5 + fact(2) * 5 + within(20, fact(2))))

    def test_thirteen_in_a_scene(self):
        self.assertTrue(is_taken_by_scene([2] * 11 + YES, [5] * 11 + YES))
        self.assertFalse(is_taken_by_scene([2] * 12 + YES, YES))
        self.assertFalse(is_taken_by_scene(YES, [5] * 12 + YES))


class Numbers(unittest.TestCase):
    def test_facts_such_that_there_are(self):
        for fact_count in range(4):
            for i in (-FAR, -1, 0, 1, 2, 3, 4, FAR):
                for row in (fact(i), no(fact(i)), both(YES, fact(i)), since(YES, fact(i)), within(2, fact(i))):
                    self.assertEqual(is_taken(row, fact_count), i in range(fact_count), (fact_count, row))

    def test_within_from_0_to_20(self):
        for n in (-FAR, -2, -1, 0, 1, 19, 20, 21, 22, FAR):
            for row in (within(n, YES), no(within(n, fact(0))), until(YES, within(n, YES))):
                self.assertEqual(is_taken(row), n in range(21), row)

    def test_within_does_not_ask_for_facts(self):
        self.assertTrue(is_taken(within(20, YES), 0))


class Looking(unittest.TestCase):
    forward = [nextly(YES), until(YES, YES), within(0, YES)]

    def test_none_that_looks_forward_in_a_before_or_since(self):
        for inner in self.forward:
            for row in (before(inner), since(inner, YES), since(YES, inner)):
                self.assertFalse(is_taken(row), row)
                self.assertFalse(is_taken(no(row)), row)
                self.assertFalse(is_taken(nextly(row)), row)
                self.assertFalse(is_taken(both(YES, row)), row)

    def test_none_deep_in_it_either(self):
        for inner in self.forward:
            for deep in (no(inner), both(inner, YES), both(YES, inner), either(inner, YES), either(YES, inner),
                         before(inner), since(YES, inner), no(no(both(YES, no(either(YES, inner))))),
                         nextly(inner), within(3, inner), until(YES, inner), until(inner, YES)):
                for row in (before(deep), since(deep, YES), since(YES, deep)):
                    self.assertFalse(is_taken(row), row)

    def test_beside_one_and_around_one_they_may_stand(self):
        for past in (before(fact(0)), since(YES, fact(0))):
            for inner in self.forward:
                self.assertTrue(is_taken(both(past, inner)))
                self.assertTrue(is_taken(both(inner, past)))
                self.assertTrue(is_taken(until(past, inner)))
            self.assertTrue(is_taken(nextly(past)))
            self.assertTrue(is_taken(within(2, no(past))))
            self.assertTrue(is_taken(until(past, past)))
            self.assertTrue(is_taken(before(past)))
            self.assertTrue(is_taken(since(past, past)))

    def test_scenes_look_back_only(self):
        for inner in self.forward:
            for row in (inner, no(inner), both(YES, inner), either(no(no(inner)), YES), both(inner, before(YES))):
                self.assertFalse(is_taken_by_scene(row, YES), row)
                self.assertFalse(is_taken_by_scene(YES, row), row)
                self.assertFalse(is_taken_by_scene(row, row), row)
        for row in ONE_OF_EACH[:7]:
            self.assertTrue(is_taken_by_scene(row, YES), row)
            self.assertTrue(is_taken_by_scene(YES, row), row)

    def test_every_kind_is_tried(self):
        self.assertEqual([row[0] for row in ONE_OF_EACH], sorted(INNER))


class Refused(unittest.TestCase):
    def test_behind_rows_that_are_no_condition_all_is_as_it_was(self):
        wrong = [wish([]), wish([1, 3]), scene(YES, nextly(YES)), scene([], YES), scene(YES, YES + YES)]
        answer = run([facts(3)] + wrong + [facts(1), wish(YES)] + wrong + [wish(YES), scene(YES, YES)])
        self.assertEqual(answer, [[0]] + [[-2]] * 5 + [[0], [0, 0]] + [[-2]] * 5 + [[0, 1], [0, 0]])


if __name__ == "__main__":
    unittest.main()
