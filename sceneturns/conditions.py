"""Conditions: how a row of numbers is read as one, and which way it looks.

A condition that was read is a list of its parts: itself and all conditions in it, in the order of the row.
So a part always stands ahead of those in it, and the whole condition is the part at 0.
"""

YES = 0
FACT = 1
NOT = 2
BOTH = 3
EITHER = 4
BEFORE = 5
SINCE = 6
NEXT = 7
UNTIL = 8
WITHIN = 9

# How many conditions stand straight in one of each kind, from YES to WITHIN.
INNER_COUNTS = (0, 0, 1, 2, 2, 1, 2, 1, 2, 1)

MOST_PARTS = 12
MOST_WITHIN = 20


class Part:
    def __init__(self, kind, number):
        self.kind = kind
        self.number = number
        # Where in the list of parts the conditions in this one stand; 0, the whole, stands for none.
        self.first = 0
        self.second = 0


def has_number(kind):
    return kind in (FACT, WITHIN)


def looks_back(kind):
    return kind in (BEFORE, SINCE)


def looks_forward(kind):
    return kind in (NEXT, UNTIL, WITHIN)


# None where the row is no condition.
def read_condition(row, facts):
    parts = read_parts(row, facts)
    if parts is None:
        return None
    join_parts(parts)
    return None if looks_forward_from_the_past(parts) else parts


def read_parts(row, facts):
    parts = []
    at = 0
    wanted = 1
    while wanted > 0:
        part = read_part(row, at, facts)
        if part is None or len(parts) == MOST_PARTS:
            return None
        parts.append(part)
        wanted += INNER_COUNTS[part.kind] - 1
        at += 2 if has_number(part.kind) else 1
    return parts if at == len(row) else None


def read_part(row, at, facts):
    if at >= len(row) or not YES <= row[at] <= WITHIN:
        return None
    kind = row[at]
    if not has_number(kind):
        return Part(kind, 0)
    most = facts - 1 if kind == FACT else MOST_WITHIN
    if at + 1 >= len(row) or not 0 <= row[at + 1] <= most:
        return None
    return Part(kind, row[at + 1])


# From the last part to the first: then what stands in a part has been met when the part is.
def join_parts(parts):
    not_taken = []
    for i in range(len(parts) - 1, -1, -1):
        part = parts[i]
        if INNER_COUNTS[part.kind] > 0:
            part.first = not_taken.pop()
        if INNER_COUNTS[part.kind] > 1:
            part.second = not_taken.pop()
        not_taken.append(i)


# Whether a next, until or within stands in a before or since, however deep.
def looks_forward_from_the_past(parts):
    in_the_past = [False] * len(parts)
    for i, part in enumerate(parts):
        if in_the_past[i] and looks_forward(part.kind):
            return True
        inner_is = in_the_past[i] or looks_back(part.kind)
        if INNER_COUNTS[part.kind] > 0:
            in_the_past[part.first] = inner_is
        if INNER_COUNTS[part.kind] > 1:
            in_the_past[part.second] = inner_is
    return False


def looks_back_only(parts):
    return not any([looks_forward(part.kind) for part in parts])
