"""Wishes: whether one is kept so far, and the first way on that would keep or break it.

Ways on are gathered in dicts: from each outlook that some make at the place before them to the first that makes it.
Such a dict always has its ways in their order, so the first one that is met in it is the first one at all.
"""

from sceneturns.places import Follower, holds_at_turn, memory_after, outlook_at_last_turn, outlook_before


class Wish:
    def __init__(self, row, parts, facts, course):
        self.row = row
        self.parts = parts
        # How many turns were gone when it was told.
        self.gone = len(course)
        self.turn_count = 1 << facts
        self.follower = Follower(parts, course)
        # The turns since the wish was told, and the memory at the place of each.
        self.turns = []
        self.memories = []
        # What was found once is kept, since one line may ask for many ways of one wish.
        self.known_ways = {}
        self.known_outlooks = {}

    def turn_comes(self, turn):
        self.turns.append(turn)
        self.memories.append(self.follower.memory)
        self.follower.follow(turn)

    def kept_so_far(self):
        return 0 if self.first_way(0, 1) is None else 1

    # The first way on, of at most so many turns, behind which the wish is kept so far (1) or isn't (0); else None.
    def first_way(self, most, kept):
        tried = {}
        for length in range(most + 1):
            untried = {}
            for outlook, way in self.ways_on(self.follower.memory, length).items():
                if outlook not in tried:
                    tried[outlook] = True
                    untried[outlook] = way
            found = self.first_among(untried, kept)
            if found is not None:
                return found
        return None

    def first_among(self, ways, kept):
        firsts = ways
        for k in range(len(self.turns) - 1, -1, -1):
            firsts = self.ways_behind_turn(firsts, self.turns[k], self.memories[k])
        for outlook, way in firsts.items():
            # The last turn gone through was the first behind the telling: there the whole condition is asked.
            if outlook[-1] == kept:
                return way
        return None

    # The same ways, by the outlooks that they make with this turn ahead of them.
    def ways_behind_turn(self, ways, turn, memory):
        firsts = {}
        for outlook, way in ways.items():
            firsts.setdefault(self.step_back(turn, memory, outlook), way)
        return firsts

    # The ways on of just so many turns, from a place with this memory.
    def ways_on(self, memory, length):
        key = (memory, length)
        if key not in self.known_ways:
            self.known_ways[key] = self.find_ways_on(memory, length)
        return self.known_ways[key]

    def find_ways_on(self, memory, length):
        last_outlook = outlook_at_last_turn(self.parts)
        if length == 0:
            return {last_outlook: ()}
        firsts = {}
        for turn in range(self.turn_count):
            later_memory = memory_after(self.parts, holds_at_turn(self.parts, turn, memory, last_outlook))
            for outlook, way in self.ways_on(later_memory, length - 1).items():
                firsts.setdefault(self.step_back(turn, memory, outlook), (turn,) + way)
        return firsts

    # From the outlook at a place with this turn to the outlook at the place before it.
    def step_back(self, turn, memory, outlook):
        key = (turn, memory, outlook)
        if key not in self.known_outlooks:
            holds = holds_at_turn(self.parts, turn, memory, outlook)
            self.known_outlooks[key] = outlook_before(self.parts, holds, outlook)
        return self.known_outlooks[key]
