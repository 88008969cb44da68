"""Meetings: all folk come together in one room."""

from tautropes.standings import need_standing
from tautropes.ways import fewest, is_led, way_to


def meetings(house, company, standing):
    """All tuples of a room where all can come together and the fewest goings to there, a list, rising."""
    need_standing(house, company, standing)
    together = {room: _all_in(company, room) for room in house.rooms()}
    return [(room, fewest(house, company, standing, together[room])) for room in house.rooms()
            if is_led(house, company, standing, together[room])]


def meet(house, company, standing, room):
    """A row of the fewest goings by which all come together in this room, a list."""
    need_standing(house, company, standing)
    house.need_room(room)
    return way_to(house, company, standing, _all_in(company, room))


def _all_in(company, room):
    """The standing of all folk in this room."""
    return {who: room for who in company.folk()}
