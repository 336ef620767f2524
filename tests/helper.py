"""What the tests share: calls written as lists, answers split up again, and a plain reading of the document.

The plain reading (holds, is_condition, PlainStory) is written from the document's sentences, place by place,
and tries every way on: slow, and in no step like the program.
"""

import copy
import itertools
import random

from sceneturns.story import answers

FAR = 10 ** 18

YES = [0]


def fact(i):
    return [1, i]


def no(f):
    return [2] + f


def both(f, g):
    return [3] + f + g


def either(f, g):
    return [4] + f + g


def before(f):
    return [5] + f


def since(f, g):
    return [6] + f + g


def nextly(f):
    return [7] + f


def until(f, g):
    return [8] + f + g


def within(n, f):
    return [9, n] + f


def facts(n):
    return [0, n]


def wish(row):
    return [1, len(row)] + row


def scene(begins, ends):
    return [2, len(begins)] + begins + [len(ends)] + ends


def turn(number):
    return [3, number]


def kept(number):
    return [4, number]


def hope(number, n, v):
    return [5, number, n, v]


def scenes():
    return [6]


def together(a, b, n):
    return [7, a, b, n]


def told_course():
    return [8]


def holds_at(place, row):
    return [9, place, len(row)] + row


def show(number):
    return [10, number]


def turns(*numbers):
    return [turn(number) for number in numbers]


def run(calls):
    """The answers to a list of calls, one list for each call."""
    handed_in = [number for call in calls for number in call]
    as_it_was = list(handed_in)
    flat = answers(handed_in)
    assert handed_in == as_it_was, "what was handed in was changed"
    found = []
    at = 0
    while at < len(flat):
        found.append(flat[at + 1:at + 1 + flat[at]])
        at += 1 + flat[at]
    assert at == len(flat), "the last answer is cut off"
    assert len(found) == len(calls), "not one answer for each call"
    return found


def last(*calls):
    return run(list(calls))[-1]


INNER = {0: 0, 1: 0, 2: 1, 3: 2, 4: 2, 5: 1, 6: 2, 7: 1, 8: 2, 9: 1}


def tree(row):
    """The first condition of a row as (kind, number, inner trees), and the rest of the row; None if there is none."""
    if not row or row[0] not in INNER:
        return None
    kind, rest, number = row[0], row[1:], None
    if kind in (1, 9):
        if not rest:
            return None
        number, rest = rest[0], rest[1:]
    inner = []
    for _ in range(INNER[kind]):
        got = tree(rest)
        if got is None:
            return None
        inner.append(got[0])
        rest = got[1]
    return (kind, number, inner), rest


def all_in(node):
    return [node] + [deeper for inner in node[2] for deeper in all_in(inner)]


def is_condition(row, fact_count):
    got = tree(row)
    if got is None or got[1]:
        return False
    nodes = all_in(got[0])
    if len(nodes) > 12:
        return False
    for kind, number, inner in nodes:
        if kind == 1 and number not in range(fact_count):
            return False
        if kind == 9 and number not in range(21):
            return False
        if kind in (5, 6) and any(deep[0] in (7, 8, 9) for below in inner for deep in all_in(below)):
            return False
    return True


def is_looking_back_only(row):
    return not any(node[0] in (7, 8, 9) for node in all_in(tree(row)[0]))


def holds(row, course, place):
    return holds_node(tree(row)[0], course, place)


def holds_node(node, course, place):
    kind, number, inner = node
    end = len(course) + 1

    def at(which, where):
        return holds_node(inner[which], course, where)

    if kind == 0:
        return True
    if kind == 1:
        return place != end and course[place - 1] // 2 ** number % 2 == 1
    if kind == 2:
        return not at(0, place)
    if kind == 3:
        return at(0, place) and at(1, place)
    if kind == 4:
        return at(0, place) or at(1, place)
    if kind == 5:
        return place != end and place > 1 and at(0, place - 1)
    if kind == 6:
        return place != end and any(
            at(1, j) and all(at(0, p) for p in range(j + 1, place + 1)) for j in range(1, place + 1))
    if kind == 7:
        return place + 1 < end and at(0, place + 1)
    if kind == 8:
        return any(at(1, j) and all(at(0, p) for p in range(place, j)) for j in range(place, end))
    return any(at(0, p) for p in range(place, min(place + number + 1, end)))


class PlainScene:
    def __init__(self, begins, ends):
        self.begins = begins
        self.ends = ends
        self.goes_on = False
        self.begun_at = 0
        self.begun_count = 0

    def turn_comes(self, course):
        if self.goes_on:
            self.goes_on = not holds(self.ends, course, len(course))
        else:
            self.goes_on = holds(self.begins, course, len(course))

    def would_go_on(self, course, way):
        would = copy.copy(self)
        for length in range(1, len(way) + 1):
            would.turn_comes(course + list(way[:length]))
        return would.goes_on


class PlainStory:
    def __init__(self):
        self.fact_count = 0
        self.course = []
        self.wishes = []
        self.scenes = []

    def answer(self, call):
        name = ("facts", "wish", "scene", "turn", "kept", "hope", "all_scenes", "together", "whole_course", "holds_at",
                "show")[call[0]]
        return getattr(self, name)(call[1:])

    def facts(self, told):
        if told[0] not in range(4):
            return [-1]
        if self.course or self.wishes or self.scenes:
            return [-3]
        self.fact_count = told[0]
        return [0]

    def wish(self, told):
        if not is_condition(told[1:], self.fact_count):
            return [-2]
        if len(self.wishes) == 6:
            return [-5]
        self.wishes.append((told[1:], len(self.course) + 1))
        return [0, len(self.wishes) - 1]

    def scene(self, told):
        rows = told[1:told[0] + 1], told[told[0] + 2:]
        if not all(is_condition(row, self.fact_count) and is_looking_back_only(row) for row in rows):
            return [-2]
        if len(self.scenes) == 6:
            return [-5]
        self.scenes.append(PlainScene(rows[0], rows[1]))
        return [0, len(self.scenes) - 1]

    def turn(self, told):
        if told[0] not in range(2 ** self.fact_count):
            return [-1]
        if len(self.course) == 60:
            return [-5]
        self.course.append(told[0])
        began = 0
        for each in self.scenes:
            went_on = each.goes_on
            each.turn_comes(self.course)
            if each.goes_on and not went_on:
                began += 1
                each.begun_at = len(self.course)
                each.begun_count += 1
        return [0, len(self.course), began] + [int(each.goes_on) for each in self.scenes]

    def kept(self, told):
        if told[0] not in range(len(self.wishes)):
            return [-4]
        row, place = self.wishes[told[0]]
        return [0, int(holds(row, self.course, place))]

    def hope(self, told):
        if told[1] not in range(7) or told[2] not in range(2):
            return [-1]
        if told[0] not in range(len(self.wishes)):
            return [-4]
        row, place = self.wishes[told[0]]
        for length in range(told[1] + 1):
            for way in itertools.product(range(2 ** self.fact_count), repeat=length):
                if holds(row, self.course + list(way), place) == (told[2] == 1):
                    return [0, 1] + list(way)
        return [0, 0]

    def all_scenes(self, told):
        answer = [0]
        for each in self.scenes:
            answer += [1, each.begun_at, each.begun_count] if each.goes_on else [0, 0, each.begun_count]
        return answer

    def together(self, told):
        if told[2] not in range(7):
            return [-1]
        if told[0] not in range(len(self.scenes)) or told[1] not in range(len(self.scenes)):
            return [-4]
        a, b = self.scenes[told[0]], self.scenes[told[1]]
        for length in range(told[2] + 1):
            for way in itertools.product(range(2 ** self.fact_count), repeat=length):
                if a.would_go_on(self.course, way) and b.would_go_on(self.course, way):
                    return [0, 1] + list(way)
        return [0, 0]

    def whole_course(self, told):
        return [0] + self.course

    def holds_at(self, told):
        if told[0] not in range(1, len(self.course) + 1):
            return [-1]
        if not is_condition(told[2:], self.fact_count):
            return [-2]
        return [0, int(holds(told[2:], self.course, told[0]))]

    def show(self, told):
        if told[0] not in range(len(self.wishes)):
            return [-4]
        row, place = self.wishes[told[0]]
        return [0, place - 1] + row


def plain_run(calls):
    story = PlainStory()
    return [story.answer(call) for call in calls]


def some_condition(source, fact_count, size, forward=True):
    """A random condition of at most so many conditions in all."""
    kinds = [0, 1, 1] if fact_count else [0]
    if size >= 2:
        kinds = [0, 1, 1, 2, 2, 5, 5] if fact_count else [0, 2, 2, 5, 5]
        if forward:
            kinds += [7, 7, 9, 9]
    if size >= 3:
        kinds += [3, 4, 6, 6]
        if forward:
            kinds += [8, 8]
    kind = source.choice(kinds)
    deeper = forward and kind not in (5, 6)
    row = [kind]
    if kind == 1:
        row.append(source.randrange(fact_count))
    if kind == 9:
        row.append(source.choice([0, 1, 1, 2, 2, 3, 4, 20]))
    if INNER[kind] == 1:
        row += some_condition(source, fact_count, size - 1, deeper)
    if INNER[kind] == 2:
        first_size = source.randint(1, size - 2)
        row += some_condition(source, fact_count, first_size, deeper)
        row += some_condition(source, fact_count, size - 1 - first_size, deeper)
    return row


def seeded(seed):
    return random.Random(seed)
