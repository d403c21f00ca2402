"""Records for the tests, and what the document says of them, worked out the slow and plain way."""

import itertools

# The letter 7 goes from hand 0 to hand 1.
ONE_LETTER = [
    [("own", 0, 5), ("send", 7, 6)],
    [("take", 7, -3), ("own", 0, 1)],
]
# Letters reach over four hands: 0 to 1, 1 to 2, 2 to 3; hand 3 also takes a letter of its own.
FOUR_HANDS = [
    [("own", 0, 1), ("send", 0, 2), ("own", 0, 3)],
    [("own", 0, -1), ("take", 0, 4), ("send", 99, 5), ("own", 0, 6)],
    [("take", 99, 7), ("send", 50, 8)],
    [("send", 7, 0), ("take", 7, 9), ("take", 50, 10), ("send", 8, 11)],
]


def copied(rows):
    return [list(row) for row in rows]


def all_events(rows):
    return [(hand, at) for hand, row in enumerate(rows) for at in range(len(row))]


def leads_straight(rows, one, other):
    # Told as a count, since one event may lead to another both by its row and by its letter.
    kind, letter = rows[one[0]][one[1]][:2]
    other_kind, other_letter = rows[other[0]][other[1]][:2]
    by_row = one[0] == other[0] and one[1] + 1 == other[1]
    by_letter = kind == "send" and other_kind == "take" and letter == other_letter
    return int(by_row) + int(by_letter)


def pairs_ahead(rows):
    events = all_events(rows)
    ahead = {(one, other) for one in events for other in events if leads_straight(rows, one, other)}
    for middle in events:
        into = [one for one in events if (one, middle) in ahead]
        out_of = [other for other in events if (middle, other) in ahead]
        ahead.update(itertools.product(into, out_of))
    return ahead


def letters_are_bad(rows):
    sent = [event[1] for row in rows for event in row if event[0] == "send"]
    taken = [event[1] for row in rows for event in row if event[0] == "take"]
    return len(set(sent)) < len(sent) or len(set(taken)) < len(taken) or not set(taken) <= set(sent)


def leads_round(rows):
    return any(one == other for one, other in pairs_ahead(rows))


def small_rows():
    """Every record of some small shapes, with two letters at the most; many of them are refused."""
    choices = [("own", 0, 5), ("send", 0, 6), ("send", 1, 7), ("take", 0, 8), ("take", 1, 9)]
    for lengths in ((4,), (2, 2), (1, 3), (0, 4), (3, 2), (2, 1, 2), (1, 1, 1, 1)):
        for events in itertools.product(choices, repeat=sum(lengths)):
            rest = list(events)
            rows = []
            for length in lengths:
                rows.append(rest[:length])
                rest = rest[length:]
            yield rows


def kept_rows(many):
    """Those of the rows that no record refuses."""
    return [rows for rows in many if not letters_are_bad(rows) and not leads_round(rows)]


def slow_can_be(rows, cut):
    had = [(hand, at) for hand, at in all_events(rows) if at < cut[hand]]
    missed = [(hand, at) for hand, at in all_events(rows) if at >= cut[hand]]
    return not any(leads_straight(rows, one, other) for one in missed for other in had)


def slow_cuts(rows):
    """All cuts that can be, in the order of the document."""
    every = itertools.product(*[range(len(row) + 1) for row in rows])
    return sorted([cut for cut in every if slow_can_be(rows, cut)], key=lambda cut: (sum(cut), cut))


def with_one_more(cut, hand):
    return tuple(count + (1 if at == hand else 0) for at, count in enumerate(cut))


def slow_walks(rows, cuts):
    """All walks to the end, out of every order in which the hands might come."""
    hands = [hand for hand, row in enumerate(rows) for event in row]
    return [list(walk) for walk in sorted(set(itertools.permutations(hands))) if walk_cuts(rows, walk, cuts)]


def walk_cuts(rows, walk, cuts):
    """The cuts of a walk from the beginning, or None where one of them cannot be."""
    here = tuple(0 for row in rows)
    told = [here]
    for hand in walk:
        here = with_one_more(here, hand)
        if here not in cuts:
            return None
        told.append(here)
    return told


def slow_value(rows, cut, hand):
    return ([0] + [event[2] for event in rows[hand][:cut[hand]]])[-1]


def slow_holds(rows, cut, wish):
    signs = {"<": int.__lt__, "=": int.__eq__, ">": int.__gt__}
    return any(
        all(signs[sign](slow_value(rows, cut, hand), number) for hand, sign, number in way)
        for way in wish
    )


def full_rows(count):
    """Records of four full rows, their letters strewn by a fixed reckoning; many of them lead round."""
    state = 12345
    for made in range(count):
        places = [(hand, at) for hand in range(4) for at in range(6)]
        mixed = []
        while places:
            state = (state * 1103515245 + 12345) % 2147483648
            mixed.append(places.pop((state // 65536) % len(places)))
        rows = [[("own", 0, hand * 10 + at) for at in range(6)] for hand in range(4)]
        for letter in range(1 + made % 9):
            send, take = mixed[2 * letter], mixed[2 * letter + 1]
            # Most letters run along the rows, so that not nearly every record leads round.
            if letter % 4 and send[1] > take[1]:
                send, take = take, send
            rows[send[0]][send[1]] = ("send", letter, letter)
            rows[take[0]][take[1]] = ("take", letter, -letter)
        yield rows
