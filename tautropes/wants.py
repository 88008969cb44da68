"""Wants: whom a going wants to go first, and where, and what bars it.

A want is a tuple (folk, room), like the going that it asks for: it is a pull.
"""

from tautropes.company import is_rope_walk
from tautropes.errors import NoDoor
from tautropes.standings import need_standing
from tautropes.taut import comes_round, firm_pulls, pulled, strand


def wants(house, company, standing, folk, room):
    """The tuple ("goes", row) or ("barred", chains) of this folk's going to this room."""
    _need_going(house, company, standing, folk, room)
    chain = _endless_chain(company, standing, (folk, room))
    if chain is not None:
        return "barred", (chain,)
    chains = _all_chains(company, standing, (folk, room))
    for one in chains:
        for other in chains:
            if _clash(company, standing, one, other):
                return "barred", (chains[one], chains[other])
    return "goes", _row(company, standing, list(chains))


def _need_going(house, company, standing, folk, room):
    """Refuse what is no standing, no folk, no room, or no room beside the folk's, of anything."""
    need_standing(house, company, standing)
    company.need_folk(folk)
    house.need_room(room)
    if not house.has_door(standing[folk], room):
        raise NoDoor(room)


def _endless_chain(company, standing, want):
    """A chain from this want that ends with a post or comes round, or None."""
    folk = want[0]
    if folk in company.posts():
        return (folk,)
    firm = firm_pulls(company, standing)
    for other in pulled(company, standing, want):
        if (other, standing[folk]) in firm:
            return (folk,) + strand(company, standing, firm, (other, standing[folk]))
    return None


def _all_chains(company, standing, want):
    """A dict from each want to which this one leads to a chain that ends with it."""
    chains = {want: (want[0],)}
    edge = [want]
    while edge:
        ahead = []
        for one in edge:
            for other in pulled(company, standing, one):
                wanted = (other, standing[one[0]])
                if wanted not in chains:
                    chains[wanted] = chains[one] + (other,)
                    ahead.append(wanted)
        edge = ahead
    return chains


def _clash(company, standing, one, other):
    """Whether two wants ask unlike things of one folk, or of two that are roped and stand in one room."""
    if one[1] == other[1]:
        return False
    if one[0] == other[0]:
        return True
    return company.has_rope(one[0], other[0]) and standing[one[0]] == standing[other[0]]


def _row(company, standing, left):
    """The goings that are wanted, each behind all that it wants itself."""
    row = []
    while left:
        ready = [want for want in left
                 if not any([(other, standing[want[0]]) in left for other in pulled(company, standing, want)])]
        row.extend(ready)
        left = [want for want in left if want not in ready]
    return row


def bars(house, company, standing, folk, room, thing):
    """Of anything: whether it is a tuple of chains that bar this folk's going to this room."""
    _need_going(house, company, standing, folk, room)
    if not isinstance(thing, tuple) or len(thing) not in (1, 2):
        return False
    if not all([_is_chain(company, standing, (folk, room), chain) for chain in thing]):
        return False
    if len(thing) == 1:
        return thing[0][-1] in company.posts() or comes_round(thing[0])
    one, other = [_last_want(standing, room, chain) for chain in thing]
    return _clash(company, standing, one, other)


def _is_chain(company, standing, want, thing):
    """Of anything: whether it is a chain that begins with this want."""
    if not is_rope_walk(company, thing) or thing[0] != want[0]:
        return False
    for place in range(1, len(thing)):
        if thing[place] not in pulled(company, standing, _last_want(standing, want[1], thing[:place])):
            return False
    return True


def _last_want(standing, room, chain):
    """With what a chain ends that begins by wanting its first folk in this room."""
    return chain[-1], room if len(chain) == 1 else standing[chain[-2]]
