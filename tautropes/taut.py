"""Taut rope-walks, and who is held by them.

A pull is a tuple (folk, room): along a taut rope-walk the folk would have to go to this room, where the
one ahead of it stands.
"""

from tautropes.company import is_rope_walk
from tautropes.errors import NotHeld
from tautropes.standings import need_standing


def is_taut(standing, rope_walk):
    """Whether each two side by side, and each two with one between, stand in unlike rooms."""
    rooms = [standing[who] for who in rope_walk]
    near = list(zip(rooms, rooms[1:])) + list(zip(rooms, rooms[2:]))
    return len(rooms) > 1 and all([one != other for one, other in near])


def comes_round(rope_walk):
    """Whether its last two folk stand side by side in it, in this order, once more ahead."""
    ropes = list(zip(rope_walk, rope_walk[1:]))
    return len(ropes) > 1 and ropes[-1] in ropes[:-1]


def goes_on(company, standing, rope_walk):
    """Whether it is taut, and ends at a post or comes round."""
    if not is_taut(standing, rope_walk):
        return False
    return rope_walk[-1] in company.posts() or comes_round(rope_walk)


def pulled(company, standing, pull):
    """Those roped to the folk of a pull that stand neither in its room nor in the pull's, a list, rising."""
    who, room = pull
    return [other for other in company.roped(who) if standing[other] not in (standing[who], room)]


def firm_pulls(company, standing):
    """All pulls from which a rope-walk goes on, a dict to True."""
    firm = {}
    for who in company.folk():
        for other in company.roped(who):
            if standing[who] != standing[other]:
                firm[(who, standing[other])] = True
    many = len(firm) + 1
    # what is left when nothing more is loose ends at posts or goes on without an end, so comes round
    while len(firm) < many:
        many = len(firm)
        firm = {pull: True for pull in firm
                if pull[0] in company.posts() or _firm_behind(company, standing, firm, pull)}
    return firm


def _firm_behind(company, standing, firm, pull):
    return [other for other in pulled(company, standing, pull) if (other, standing[pull[0]]) in firm]


def strand(company, standing, firm, pull):
    """A rope-walk from the folk of a firm pull that ends at a post or comes round."""
    walk = (pull[0],)
    while walk[-1] not in company.posts() and not comes_round(walk):
        other = _firm_behind(company, standing, firm, pull)[0]
        pull = (other, standing[walk[-1]])
        walk = walk + (other,)
    return walk


def _firm_seconds(company, standing, firm, folk):
    """Of those with whom a rope-walk of this folk goes on one for each room, a list."""
    seconds = {}
    for other in company.roped(folk):
        if (other, standing[folk]) in firm:
            seconds[standing[other]] = other
    return list(seconds.values())


def held(house, company, standing):
    """All held ones, a list, rising."""
    need_standing(house, company, standing)
    firm = firm_pulls(company, standing)
    return [who for who in company.folk()
            if who in company.posts() or len(_firm_seconds(company, standing, firm, who)) > 1]


def held_paper(house, company, standing, folk):
    """The paper of a held one: () of a post, else two rope-walks that go on from it."""
    need_standing(house, company, standing)
    company.need_folk(folk)
    if folk in company.posts():
        return ()
    firm = firm_pulls(company, standing)
    seconds = _firm_seconds(company, standing, firm, folk)
    if len(seconds) < 2:
        raise NotHeld(folk)
    return tuple([(folk,) + strand(company, standing, firm, (other, standing[folk])) for other in seconds[:2]])


def shows_held(house, company, standing, folk, thing):
    """Of anything: whether it is a paper that this folk is held."""
    need_standing(house, company, standing)
    company.need_folk(folk)
    if folk in company.posts():
        return thing == ()
    if not isinstance(thing, tuple) or len(thing) != 2:
        return False
    if not all([is_rope_walk(company, walk) and walk[0] == folk for walk in thing]):
        return False
    one, other = thing
    if not goes_on(company, standing, one) or not goes_on(company, standing, other):
        return False
    return standing[one[1]] != standing[other[1]]
