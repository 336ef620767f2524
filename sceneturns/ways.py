"""Ways on, all of just so many turns at once: on which of them a condition that looks back only holds.

A way's *head* is its first turns, at most 3; its *tail* is the turns behind these. Both are numbered in their order.
A *set* of ways of as many turns is a list with a number for each tail, the first tail's first: bit h of that number,
from the lowest one on, is 1 if the head of number h, with this tail behind it, is in the set.
So one step goes through many ways, and no number needs more than 512 bits, one for each head of 3 turns.
"""

from sceneturns.conditions import YES, FACT, NOT, BOTH, EITHER, BEFORE, looks_back
from sceneturns.places import memory_after

MOST_HEAD = 3


# The ways on of just so many turns.
class Ways:
    def __init__(self, facts, length):
        self.facts = facts
        self.length = length
        self.head_length = min(length, MOST_HEAD)
        self.tail_length = length - self.head_length
        self.head_count = 1 << (facts * self.head_length)
        self.tail_count = 1 << (facts * self.tail_length)
        self.all_heads = (1 << self.head_count) - 1
        self.every_way = [self.all_heads] * self.tail_count
        self.ways_by_fact = [self.ways_with_fact(i) for i in range(facts)]

    # The ways at whose last turn the fact is so: the lowest bits of a head's or tail's number are its last turn.
    def ways_with_fact(self, i):
        if self.tail_length > 0:
            return [self.all_heads if (tail >> i) & 1 == 1 else 0 for tail in range(self.tail_count)]
        heads = 0
        for head in range(self.head_count):
            heads |= ((head >> i) & 1) << head
        return [heads]

    # From a set of ways of one turn less: they, each with any turn behind it.
    def lengthened(self, shorter_ways):
        if self.tail_length > 0:
            return [shorter_ways[tail >> self.facts] for tail in range(self.tail_count)]
        return [self.lengthened_heads(heads) for heads in shorter_ways]

    def lengthened_heads(self, shorter_heads):
        any_turn = (1 << (1 << self.facts)) - 1
        heads = 0
        for head in range(self.head_count >> self.facts):
            if (shorter_heads >> head) & 1 == 1:
                heads |= any_turn << (head << self.facts)
        return heads

    # The turns of the first way in a set; None if there is none in it.
    def first_in(self, ways):
        heads = 0
        for heads_with_tail in ways:
            heads |= heads_with_tail
        if heads == 0:
            return None
        # Of two ways the one with the lower head goes ahead, whatever their tails are.
        head = (heads & -heads).bit_length() - 1
        tail = 0
        while (ways[tail] >> head) & 1 == 0:
            tail += 1
        return self.turns_of(head, self.head_length) + self.turns_of(tail, self.tail_length)

    def turns_of(self, number, length):
        highest_turn = (1 << self.facts) - 1
        return [(number >> (self.facts * later)) & highest_turn for later in range(length - 1, -1, -1)]


# The ways at whose last turn the part holds; those of the parts in it are known.
def ways_where_part_holds(part, holds, remembered, ways):
    if part.kind == YES:
        return ways.every_way
    if part.kind == FACT:
        return ways.ways_by_fact[part.number]
    if part.kind == BEFORE:
        return remembered
    first = holds[part.first]
    if part.kind == NOT:
        return [ways.all_heads ^ f for f in first]
    second = holds[part.second]
    if part.kind == BOTH:
        return [f & g for f, g in zip(first, second)]
    if part.kind == EITHER:
        return [f | g for f, g in zip(first, second)]
    return [g | (f & since) for f, g, since in zip(first, second, remembered)]


# A condition that looks back only on its way along all ways on at once, from where its follower stands.
# Its memory has a set of ways, in the place of 0 or 1, for each part that needs one.
class WaysFollower:
    def __init__(self, follower):
        self.parts = follower.parts
        self.memory = tuple([[remembered] for remembered in follower.memory])

    # Gives back the ways at whose last turn the condition holds; they have a turn more than at the time before.
    def follow(self, ways):
        holds = [[]] * len(self.parts)
        for i in range(len(self.parts) - 1, -1, -1):
            part = self.parts[i]
            remembered = ways.lengthened(self.memory[i]) if looks_back(part.kind) else []
            holds[i] = ways_where_part_holds(part, holds, remembered, ways)
        self.memory = memory_after(self.parts, holds)
        return holds[0]
