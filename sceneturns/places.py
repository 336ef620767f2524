"""Whether a condition holds at a place of a course, told from what is known of the places beside it.

What a place has to know of the turns before it is its *memory*, a tuple with a number for each part:
for a before whether the condition in it held at the place before, for a since whether it held there itself.
What it has to know of the turns to come is its *outlook*, a tuple with a number for each part:
for a next whether the condition in it holds at the next place, for an until whether it holds there itself,
for a within at how many places, the next one and back from it, it holds by the turns from the next one on.
One more number stands last in it: whether the whole condition holds at the next place.
Rows of turns that make the same outlook are alike for every turn before them, so one of them stands for all.
"""

from sceneturns.conditions import YES, FACT, NOT, BOTH, EITHER, BEFORE, SINCE, NEXT, UNTIL, WITHIN


# The others need a turn at the place, so they never hold at the end.
def may_hold_at_end(kind):
    return kind in (YES, NOT, BOTH, EITHER)


def memory_at_first_turn(parts):
    return tuple([0] * len(parts))


# The next place is the end.
def outlook_at_last_turn(parts):
    return tuple([0] * len(parts) + [holds_at_end(parts)[0]])


# For each part 1 if it holds at the end, else 0.
def holds_at_end(parts):
    holds = [0] * len(parts)
    for i in range(len(parts) - 1, -1, -1):
        if may_hold_at_end(parts[i].kind):
            holds[i] = part_holds_anywhere(parts[i], holds)
    return holds


# For each part 1 if it holds at a place with this turn, else 0.
def holds_at_turn(parts, turn, memory, outlook):
    holds = [0] * len(parts)
    for i in range(len(parts) - 1, -1, -1):
        if may_hold_at_end(parts[i].kind):
            holds[i] = part_holds_anywhere(parts[i], holds)
        else:
            holds[i] = part_holds_at_turn(parts[i], holds, turn, memory[i], outlook[i])
    return holds


def part_holds_anywhere(part, holds):
    if part.kind == YES:
        return 1
    if part.kind == NOT:
        return 1 - holds[part.first]
    if part.kind == BOTH:
        return holds[part.first] & holds[part.second]
    return holds[part.first] | holds[part.second]


def part_holds_at_turn(part, holds, turn, remembered, awaited):
    if part.kind == FACT:
        return (turn >> part.number) & 1
    if part.kind == BEFORE:
        return remembered
    if part.kind == SINCE:
        return holds[part.second] | (holds[part.first] & remembered)
    if part.kind == NEXT:
        return awaited
    if part.kind == UNTIL:
        return holds[part.second] | (holds[part.first] & awaited)
    return 1 if reach_of_within(part, holds, awaited) > 0 else 0


# At how many places, this one and back from it, the within holds by the turns from this one on.
def reach_of_within(part, holds, awaited):
    if holds[part.first] == 1:
        return part.number + 1
    return max(0, awaited - 1)


# The memory at the place right behind one with these holds.
def memory_after(parts, holds):
    memory = [0] * len(parts)
    for i, part in enumerate(parts):
        if part.kind == BEFORE:
            memory[i] = holds[part.first]
        elif part.kind == SINCE:
            memory[i] = holds[i]
    return tuple(memory)


# The outlook at the place right before one with these holds and this outlook.
def outlook_before(parts, holds, outlook):
    earlier = [0] * len(parts) + [holds[0]]
    for i, part in enumerate(parts):
        if part.kind == NEXT:
            earlier[i] = holds[part.first]
        elif part.kind == UNTIL:
            earlier[i] = holds[i]
        elif part.kind == WITHIN:
            earlier[i] = reach_of_within(part, holds, outlook[i])
    return tuple(earlier)


# A condition on its way along a course, with its memory at the place that comes next.
class Follower:
    def __init__(self, parts, course):
        self.parts = parts
        self.memory = memory_at_first_turn(parts)
        for turn in course:
            self.follow(turn)

    # Gives back 1 if the condition holds at the turn as if it were the last one, else 0.
    def follow(self, turn):
        # Nothing in a before or since looks forward, so the memory is right whatever turns come.
        holds = holds_at_turn(self.parts, turn, self.memory, outlook_at_last_turn(self.parts))
        self.memory = memory_after(self.parts, holds)
        return holds[0]


# 1 if the condition holds at a place of the course as it is, else 0.
def holds_at_place(parts, course, place):
    follower = Follower(parts, [])
    memories = []
    for turn in course:
        memories.append(follower.memory)
        follower.follow(turn)
    outlook = outlook_at_last_turn(parts)
    # Places are numbered from 1, so the turn at the place is the one at place - 1.
    for k in range(len(course) - 1, place - 2, -1):
        holds = holds_at_turn(parts, course[k], memories[k], outlook)
        outlook = outlook_before(parts, holds, outlook)
    return outlook[-1]
