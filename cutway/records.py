"""Records: a row of events for each hand, refused where no doing could have told them."""

from cutway.errors import BadLetter, NoEvent, Ring


class Record:
    def __init__(self, rows):
        # The lists are copied, since those handed in may be changed later; the events are tuples and stay.
        self.rows = [list(row) for row in rows]
        self.sends = letter_places(self.rows, "send")
        self.takes = letter_places(self.rows, "take")
        check_sent(self.sends, self.takes)
        ring = find_ring(self.rows, self.sends)
        if ring is not None:
            raise Ring(ring)

    def event(self, hand, at):
        # Python counts places below nought from the end, so they are refused here.
        if hand < 0 or hand >= len(self.rows):
            raise NoEvent(f"no hand {hand}")
        row = self.rows[hand]
        if at < 0 or at >= len(row):
            raise NoEvent(f"no place {at} in the row of hand {hand}")
        return row[at]

    def end(self):
        return tuple([len(row) for row in self.rows])


def letter_places(rows, kind):
    places = {}
    for hand, row in enumerate(rows):
        for at, event in enumerate(row):
            if event[0] == kind:
                letter = event[1]
                if letter in places:
                    raise BadLetter(f"letter {letter} has more than one {kind}")
                places[letter] = (hand, at)
    return places


def check_sent(sends, takes):
    for letter in takes:
        if letter not in sends:
            raise BadLetter(f"letter {letter} is taken and never sent")


def find_ring(rows, sends):
    counts = counts_done(rows, sends)
    for hand, row in enumerate(rows):
        if counts[hand] < len(row):
            return ring_behind(rows, sends, counts, (hand, counts[hand]))
    return None


def counts_done(rows, sends):
    # Each hand goes on until it waits for a letter; what is never done lies on a ring or behind one.
    counts = [0 for row in rows]
    moved = True
    while moved:
        moved = False
        for hand, row in enumerate(rows):
            while counts[hand] < len(row) and can_be_done(row[counts[hand]], sends, counts):
                counts[hand] += 1
                moved = True
    return counts


def can_be_done(event, sends, counts):
    if event[0] != "take":
        return True
    sent = sends[event[1]]
    return sent[1] < counts[sent[0]]


def ring_behind(rows, sends, counts, start):
    # An event that was not done is led to by another such one, so the way back comes round.
    way_back = []
    one = start
    while one not in way_back:
        way_back.append(one)
        one = undone_ahead(rows, sends, counts, one)
    return list(reversed(way_back[way_back.index(one):]))


def undone_ahead(rows, sends, counts, one):
    hand = one[0]
    at = one[1]
    if at > counts[hand]:
        return (hand, at - 1)
    # The first event that a hand did not do is a take whose letter was not sent.
    return sends[rows[hand][at][1]]
