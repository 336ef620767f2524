"""The calls: a list of calls is read, each is answered on one story, and the answers are given back."""

from sceneturns.conditions import looks_back_only, read_condition
from sceneturns.places import holds_at_place
from sceneturns.scenes import Scene, first_way_together
from sceneturns.wishes import Wish

FACTS = 0
WISH = 1
SCENE = 2
TURN = 3
KEPT = 4
HOPE = 5
SCENES = 6
TOGETHER = 7
COURSE = 8
HOLDS = 9
SHOW = 10

# For each call, from FACTS to SHOW, how many whole numbers it has, then how many rows.
CALL_FORMS = ((1, 0), (0, 1), (0, 2), (1, 0), (1, 0), (3, 0), (0, 0), (3, 0), (0, 0), (1, 1), (1, 0))

# The refusals. Each call asks for them in this order, so the one nearest to 0 is answered.
NOT_IN_RANGE = -1
NO_CONDITION = -2
NOT_THE_TIME = -3
NONE_SUCH = -4
NO_PLACE = -5

MOST_FACTS = 3
MOST_TURNS = 60
MOST_WISHES = 6
MOST_SCENES = 6
MOST_WAY = 6


class Story:
    def __init__(self):
        self.facts = 0
        self.course = []
        self.wishes = []
        self.scenes = []

    def answer(self, call, numbers, rows):
        if call == FACTS:
            return self.tell_facts(numbers[0])
        if call == WISH:
            return self.tell_wish(rows[0])
        if call == SCENE:
            return self.tell_scene(rows[0], rows[1])
        if call == TURN:
            return self.tell_turn(numbers[0])
        if call == KEPT:
            return self.ask_kept(numbers[0])
        if call == HOPE:
            return self.ask_hope(numbers[0], numbers[1], numbers[2])
        if call == SCENES:
            return self.ask_scenes()
        if call == TOGETHER:
            return self.ask_together(numbers[0], numbers[1], numbers[2])
        if call == COURSE:
            return [0] + self.course
        if call == HOLDS:
            return self.ask_holds(numbers[0], rows[0])
        return self.ask_show(numbers[0])

    def tell_facts(self, facts):
        if not 0 <= facts <= MOST_FACTS:
            return [NOT_IN_RANGE]
        if len(self.course) + len(self.wishes) + len(self.scenes) > 0:
            return [NOT_THE_TIME]
        self.facts = facts
        return [0]

    def tell_wish(self, row):
        parts = read_condition(row, self.facts)
        if parts is None:
            return [NO_CONDITION]
        if len(self.wishes) == MOST_WISHES:
            return [NO_PLACE]
        self.wishes.append(Wish(row, parts, self.facts, self.course))
        return [0, len(self.wishes) - 1]

    def tell_scene(self, begin_row, end_row):
        begin_parts = read_condition(begin_row, self.facts)
        end_parts = read_condition(end_row, self.facts)
        if begin_parts is None or end_parts is None:
            return [NO_CONDITION]
        if not looks_back_only(begin_parts) or not looks_back_only(end_parts):
            return [NO_CONDITION]
        if len(self.scenes) == MOST_SCENES:
            return [NO_PLACE]
        self.scenes.append(Scene(begin_parts, end_parts, self.course))
        return [0, len(self.scenes) - 1]

    def tell_turn(self, turn):
        if not 0 <= turn < 1 << self.facts:
            return [NOT_IN_RANGE]
        if len(self.course) == MOST_TURNS:
            return [NO_PLACE]
        self.course.append(turn)
        for wish in self.wishes:
            wish.turn_comes(turn)
        began = 0
        for scene in self.scenes:
            began += scene.turn_comes(turn, len(self.course))
        return [0, len(self.course), began] + [scene.goes_on for scene in self.scenes]

    def ask_kept(self, number):
        if not 0 <= number < len(self.wishes):
            return [NONE_SUCH]
        return [0, self.wishes[number].kept_so_far()]

    def ask_hope(self, number, most, kept):
        if not 0 <= most <= MOST_WAY or not 0 <= kept <= 1:
            return [NOT_IN_RANGE]
        if not 0 <= number < len(self.wishes):
            return [NONE_SUCH]
        way = self.wishes[number].first_way(most, kept)
        return [0, 0] if way is None else [0, 1] + list(way)

    def ask_scenes(self):
        answer = [0]
        for scene in self.scenes:
            answer.extend([scene.goes_on, scene.begun_at, scene.begun_count])
        return answer

    def ask_together(self, number, other_number, most):
        if not 0 <= most <= MOST_WAY:
            return [NOT_IN_RANGE]
        if not 0 <= number < len(self.scenes) or not 0 <= other_number < len(self.scenes):
            return [NONE_SUCH]
        way = first_way_together(self.scenes[number], self.scenes[other_number], most, self.facts)
        return [0, 0] if way is None else [0, 1] + way

    def ask_holds(self, place, row):
        if not 1 <= place <= len(self.course):
            return [NOT_IN_RANGE]
        parts = read_condition(row, self.facts)
        if parts is None:
            return [NO_CONDITION]
        return [0, holds_at_place(parts, self.course, place)]

    def ask_show(self, number):
        if not 0 <= number < len(self.wishes):
            return [NONE_SUCH]
        wish = self.wishes[number]
        return [0, wish.gone] + wish.row


# The rows of a call, of which the first begins at a place of the list, and the place behind the last one.
def read_rows(calls, start, row_count):
    rows = []
    at = start
    while len(rows) < row_count:
        row_end = at + 1 + calls[at]
        rows.append(calls[at + 1:row_end])
        at = row_end
    return (rows, at)


def answers(calls):
    story = Story()
    given = []
    at = 0
    while at < len(calls):
        form = CALL_FORMS[calls[at]]
        rows_at = at + 1 + form[0]
        rows_read = read_rows(calls, rows_at, form[1])
        answer = story.answer(calls[at], calls[at + 1:rows_at], rows_read[0])
        given.append(len(answer))
        given.extend(answer)
        at = rows_read[1]
    return given
