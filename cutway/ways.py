"""What leads to what: events told as (hand, place), roads between them, and their clocks."""


def straight(record, one):
    hand = one[0]
    at = one[1]
    event = record.event(hand, at)
    told = []
    if at + 1 < len(record.rows[hand]):
        told.append((hand, at + 1))
    if event[0] == "send" and event[1] in record.takes:
        told.append(record.takes[event[1]])
    return told


def clock(record, one):
    record.event(one[0], one[1])
    counts = [0 for row in record.rows]
    waiting = [one]
    while waiting:
        last = waiting.pop()
        hand = last[0]
        fresh = record.rows[hand][counts[hand]:last[1] + 1]
        # Of a row all events up to the last one came ahead with it, so a count tells them all.
        counts[hand] += len(fresh)
        for event in fresh:
            if event[0] == "take":
                waiting.append(record.sends[event[1]])
    return tuple(counts)


def came_ahead(record, one, other):
    record.event(one[0], one[1])
    counts = clock(record, other)
    return one != other and one[1] < counts[one[0]]


def road(record, one, other):
    if not came_ahead(record, one, other):
        return None
    told = [one]
    while told[-1] != other:
        told.append(step_towards(record, told[-1], other))
    return told


def step_towards(record, one, other):
    steps = straight(record, one)
    return [step for step in steps if step == other or came_ahead(record, step, other)][0]
