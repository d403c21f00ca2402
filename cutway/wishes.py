"""Wishes: what holds in a cut, what may have held and what must have held."""

from cutway.cuts import added, all_cuts, beginning, nexts


def holds(record, cut, wish):
    return any([way_holds(record, cut, way) for way in wish])


def way_holds(record, cut, way):
    return all([term_holds(record, cut, term) for term in way])


def term_holds(record, cut, term):
    value = value_in(record, cut, term[0])
    sign = term[1]
    number = term[2]
    if sign == "<":
        return value < number
    if sign == "=":
        return value == number
    return value > number


def value_in(record, cut, hand):
    # A hand that the record has not has no events either.
    if hand < 0 or hand >= len(cut) or cut[hand] == 0:
        return 0
    return record.rows[hand][cut[hand] - 1][2]


def may(record, wish):
    for cut in all_cuts(record):
        if holds(record, cut, wish):
            return cut
    return None


def must(record, wish):
    walks = without_held(record, wish, {beginning(record): []})
    for step in range(sum(record.end())):
        walks = without_held(record, wish, walks_behind(record, walks))
    return walks.get(record.end())


def without_held(record, wish, walks):
    kept = {}
    for cut, walk in walks.items():
        if not holds(record, cut, wish):
            kept[cut] = walk
    return kept


def walks_behind(record, walks):
    # One walk to each cut is enough: how it goes on does not hang on how it came there.
    behind = {}
    for cut, walk in walks.items():
        for hand in nexts(record, cut):
            behind[added(cut, hand)] = walk + [hand]
    return behind


def soonest(record, way):
    # The least cut lies in all others, so it has fewer events than they and is the first one told.
    return may(record, [way])
