"""Scenes: what begins and ends by conditions that look back only."""

from sceneturns.places import Follower


class Scene:
    def __init__(self, begin_parts, end_parts, course):
        self.begin = Follower(begin_parts, course)
        self.end = Follower(end_parts, course)
        self.goes_on = 0

    # Gives back 1 if the scene begins at the turn, else 0.
    def turn_comes(self, turn):
        # Both are followed at each turn: each has to know the whole course.
        begin_holds = self.begin.follow(turn)
        end_holds = self.end.follow(turn)
        if self.goes_on == 1:
            self.goes_on = 1 - end_holds
            return 0
        self.goes_on = begin_holds
        return begin_holds
