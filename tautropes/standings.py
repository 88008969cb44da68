"""Standings of a company in a house, goings from one to the next, rope-walks read by them."""

from tautropes.errors import NoStanding, NotGone


def is_standing(house, company, thing):
    """Of anything: whether it is a standing of this company in this house."""
    if not isinstance(thing, dict) or len(thing) != len(company.folk()):
        return False
    if not all([who in thing and house.has_room(thing[who]) for who in company.folk()]):
        return False
    return all([house.side_by_side(thing[one], thing[other]) for one, other in company.ropes()])


def need_standing(house, company, thing):
    """Refuse what is no standing, of anything."""
    if not is_standing(house, company, thing):
        raise NoStanding(thing)


def goings(house, company, standing):
    """All goings that can be done, a list, rising."""
    need_standing(house, company, standing)
    told = []
    for who in company.folk():
        for room in house.beside(standing[who]):
            if why_not(house, company, standing, (who, room)) is None:
                told.append((who, room))
    return told


def gone(house, company, standing, row):
    """The standing behind a row of goings."""
    need_standing(house, company, standing)
    now = {who: standing[who] for who in company.folk()}
    for number, going in enumerate(row):
        why = why_not(house, company, now, going)
        if why is not None:
            raise NotGone(number, why)
        now[going[0]] = going[1]
    return now


def why_not(house, company, standing, going):
    """Of anything: the first cause why it is no going that can be done, or None."""
    if not _is_going(house, company, going):
        return "form"
    who, room = going
    if who in company.posts():
        return "post"
    if not house.has_door(standing[who], room):
        return "door"
    # no three rooms have doors each to each, so a third room is never beside both
    if any([standing[other] not in (standing[who], room) for other in company.roped(who)]):
        return "rope"
    return None


def _is_going(house, company, thing):
    if not isinstance(thing, tuple) or len(thing) != 2:
        return False
    return company.has_folk(thing[0]) and house.has_room(thing[1])


def read(standing, rope_walk):
    """The walk of the rooms of these folk, a room that is the one ahead left out."""
    rooms = []
    for who in rope_walk:
        if len(rooms) == 0 or standing[who] != rooms[-1]:
            rooms.append(standing[who])
    return tuple(rooms)
