"""Folds of a house above onto one below; the walks and standings above that lie over those below."""

from tautropes.errors import Apart, NoFold, NoLift
from tautropes.standings import need_standing, read
from tautropes.tension import rope_rings, tree_walks


def is_fold(above, below, thing):
    """Of anything: whether it is a fold of the house above onto the one below."""
    if not isinstance(thing, dict) or len(thing) != len(above.rooms()):
        return False
    if not all([room in thing and below.has_room(thing[room]) for room in above.rooms()]):
        return False
    if not all([_leads_one_by_one(above, below, thing, room) for room in above.rooms()]):
        return False
    led_to = list(thing.values())
    return all([room in led_to for room in below.rooms()])


def _leads_one_by_one(above, below, fold, room):
    """Whether the rooms beside this one are led to just those beside the room to which it is led."""
    return sorted([fold[other] for other in above.beside(room)]) == below.beside(fold[room])


def _need_fold(above, below, fold):
    if not is_fold(above, below, fold):
        raise NoFold(fold)


def _need_over(fold, room, below_it):
    if fold[room] != below_it:
        raise Apart()


def lifted_walk(above, below, fold, room, walk):
    """The walk above from this room that lies over a walk below."""
    _need_fold(above, below, fold)
    above.need_room(room)
    _need_over(fold, room, walk[0])
    return _over(above, fold, room, walk)


def _over(above, fold, room, walk):
    rooms = [room]
    for onward in walk[1:]:
        # of the rooms beside just one is led there
        rooms.extend([other for other in above.beside(rooms[-1]) if fold[other] == onward])
    return tuple(rooms)


def lowered(fold, standing):
    """The standing below, over which this one above lies."""
    return {who: fold[standing[who]] for who in standing}


def lifted(above, below, fold, company, standing, folk, room):
    """The standing above, with this folk in this room, that lies over a standing below."""
    _need_fold(above, below, fold)
    need_standing(below, company, standing)
    company.need_folk(folk)
    above.need_room(room)
    _need_over(fold, room, standing[folk])
    for ring in rope_rings(company, folk):
        if _over(above, fold, room, read(standing, ring))[-1] != room:
            raise NoLift(ring)
    walks = tree_walks(company, folk)
    return {who: _over(above, fold, room, read(standing, walks[who]))[-1] for who in walks}
