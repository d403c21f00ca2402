"""Cuts: the first events of each row, those that can be, and the walks through them."""

from cutway.errors import NoCut
from cutway.records import can_be_done


def can_be(record, cut):
    if len(cut) != len(record.rows):
        return False
    for row, count in zip(record.rows, cut):
        if count < 0 or count > len(row):
            return False
        # What leads to an event along its row is always there, so only a letter can be missing.
        for event in row[:count]:
            if not can_be_done(event, record.sends, cut):
                return False
    return True


def check_can_be(record, cut):
    if not can_be(record, cut):
        raise NoCut(f"the cut {cut!r} cannot be")


def nexts(record, cut):
    return [hand for hand in range(len(cut)) if can_go_on(record, cut, hand)]


def can_go_on(record, cut, hand):
    # All that the cut has already is led to by its own events, so only the new event is asked about.
    row = record.rows[hand]
    count = cut[hand]
    return count < len(row) and can_be_done(row[count], record.sends, cut)


def beginning(record):
    return tuple([0 for row in record.rows])


def added(cut, hand):
    return cut[:hand] + (cut[hand] + 1,) + cut[hand + 1:]


def walk_to(record, cut):
    check_can_be(record, cut)
    walk = []
    here = beginning(record)
    while here != cut:
        walk.append(hand_towards(record, here, cut))
        here = added(here, walk[-1])
    return walk


def hand_towards(record, here, cut):
    # Whatever leads to an event of the cut lies in the cut, so within it some hand can always go on.
    return [hand for hand in nexts(record, here) if here[hand] < cut[hand]][0]


def joined(record, one, other):
    check_can_be(record, one)
    check_can_be(record, other)
    return tuple([max(first, second) for first, second in zip(one, other)])


def met(record, one, other):
    check_can_be(record, one)
    check_can_be(record, other)
    return tuple([min(first, second) for first, second in zip(one, other)])


def all_cuts(record):
    told = []
    level = [beginning(record)]
    while level:
        told.extend(level)
        level = level_behind(record, level)
    return told


def level_behind(record, level):
    # Several cuts lead to the same one, which is told once.
    found = {}
    for cut in level:
        for hand in nexts(record, cut):
            found[added(cut, hand)] = True
    return sorted(found)


def walk_count(record):
    counts = {beginning(record): 1}
    for step in range(sum(record.end())):
        counts = counts_behind(record, counts)
    return counts[record.end()]


def counts_behind(record, counts):
    behind = {}
    for cut, count in counts.items():
        for hand in nexts(record, cut):
            further = added(cut, hand)
            behind[further] = behind.get(further, 0) + count
    return behind
