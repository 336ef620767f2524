"""Scenes: what begins and ends by conditions that look back only, and ways on behind which two of them go on."""

from sceneturns.places import Follower
from sceneturns.ways import Ways, WaysFollower


class Scene:
    def __init__(self, begin_parts, end_parts, course):
        self.begin = Follower(begin_parts, course)
        self.end = Follower(end_parts, course)
        self.goes_on = 0
        # The place of the turn at which it began; 0 as long as it doesn't go on.
        self.begun_at = 0
        self.begun_count = 0

    # Gives back 1 if the scene begins at the turn, else 0.
    def turn_comes(self, turn, place):
        # Both are followed at each turn: each has to know the whole course.
        begin_holds = self.begin.follow(turn)
        end_holds = self.end.follow(turn)
        if self.goes_on == 1:
            if end_holds == 1:
                self.goes_on = 0
                self.begun_at = 0
            return 0
        if begin_holds == 1:
            self.goes_on = 1
            self.begun_at = place
            self.begun_count += 1
        return begin_holds


# A scene on all ways on at once, from where it stands; the scene itself stays there.
class SceneAhead:
    def __init__(self, scene):
        self.begin = WaysFollower(scene.begin)
        self.end = WaysFollower(scene.end)
        # The ways behind which it goes on, at first of no turns.
        self.ways_going_on = [scene.goes_on]

    # From the ways that were gone to those of one turn more.
    def any_turn_comes(self, ways):
        goes_on = ways.lengthened(self.ways_going_on)
        begin_holds = self.begin.follow(ways)
        end_holds = self.end.follow(ways)
        heads = ways.all_heads
        self.ways_going_on = [(on & (heads ^ ends)) | ((heads ^ on) & begins)
                              for on, begins, ends in zip(goes_on, begin_holds, end_holds)]


# The first way on, of at most so many turns, behind which both scenes go on; None if there is none.
def first_way_together(scene, other_scene, most, facts):
    ahead = SceneAhead(scene)
    other_ahead = SceneAhead(other_scene)
    for length in range(most + 1):
        ways = Ways(facts, length)
        if length > 0:
            ahead.any_turn_comes(ways)
            other_ahead.any_turn_comes(ways)
        way = ways.first_in([one & other for one, other in zip(ahead.ways_going_on, other_ahead.ways_going_on)])
        if way is not None:
            return way
    return None
