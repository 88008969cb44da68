"""All standings of a company, and their lots: those that are led to one another.

A standing is told here as the tuple of its rooms in the order of folk.
"""

from tautropes.errors import TooMany
from tautropes.pairs import neighbours, spans
from tautropes.standings import goings, need_standing

MOST_STANDINGS = 2000


def standings_of(house, company):
    """All standings of this company, its posts anywhere, a list, rising."""
    apart = _steps_apart(house.rooms(), house.doors())
    ropes = _steps_apart(company.folk(), company.ropes())
    told = [{}]
    for roped in company.lots():
        if _least_many(house, len(roped)) > MOST_STANDINGS:
            raise TooMany(MOST_STANDINGS)
        found = []
        _stand(apart, ropes, list(ropes[roped[0]]), {}, found)
        if len(told) * len(found) > MOST_STANDINGS:
            raise TooMany(MOST_STANDINGS)
        told = [{**one, **other} for one in told for other in found]
    return sorted([_rooms_of(company, standing) for standing in told])


def _rooms_of(company, standing):
    return tuple([standing[who] for who in company.folk()])


def _steps_apart(names, pairs):
    """For each name a dict from those that hang together with it to the steps between, nearer ones ahead."""
    near = neighbours(names, pairs)
    return {name: spans(near, name) for name in names}


def _least_many(house, many):
    """As many standings as so many roped folk have in any case: all in one room, or on both sides of one door."""
    return len(house.rooms()) + len(house.doors()) * ((1 << many) - 2)


def _stand(apart, ropes, order, now, found):
    """Put behind those found all standings of the folk in this order, of which the first ones stand already.

    In this order each folk is roped to one ahead of it, so that few beginnings lead nowhere.
    """
    if len(found) > MOST_STANDINGS:
        raise TooMany(MOST_STANDINGS)
    if len(now) == len(order):
        found.append(now)
        return
    who = order[len(now)]
    for room in apart:
        if all([_within(apart[room], now[other], ropes[who][other]) for other in now]):
            _stand(apart, ropes, order, {**now, who: room}, found)


def _within(spread, room, many):
    # by a row of ropes two are no more steps apart than it has ropes
    return room in spread and spread[room] <= many


def lots(house, company):
    """All lists of standings that are led to one another, each rising, rising."""
    told = []
    done = set()
    for begin in standings_of(house, company):
        if begin not in done:
            found = _come_to(house, company, begin)
            for rooms in found:
                done.add(rooms)
            told.append(found)
    return told


def lot(house, company, standing):
    """All standings that are led to this one, a list, rising."""
    need_standing(house, company, standing)
    # asked for its refusal alone: where all are too many, those of one lot are not told either
    standings_of(house, company)
    return _come_to(house, company, _rooms_of(company, standing))


def _come_to(house, company, begin):
    """All standings that can be come to from this one, a list, rising; each going can be taken back."""
    found = {begin: True}
    left = [begin]
    while left:
        standing = dict(zip(company.folk(), left.pop()))
        for who, room in goings(house, company, standing):
            rooms = _rooms_of(company, {**standing, who: room})
            if rooms not in found:
                found[rooms] = True
                left.append(rooms)
    return sorted(found)
