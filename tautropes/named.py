"""Houses, companies and standings with other names."""

from tautropes.company import Company
from tautropes.errors import NoNames
from tautropes.house import House
from tautropes.pairs import wrong_names


def named_house(house, names):
    """The house whose rooms are called by these names, a dict from the rooms."""
    _need_names(house.rooms(), names)
    return House(_called(house.rooms(), names), [_called(door, names) for door in house.doors()])


def named_company(company, names):
    """The company whose folk are called by these names, a dict from the folk."""
    _need_names(company.folk(), names)
    ropes = [_called(rope, names) for rope in company.ropes()]
    return Company(_called(company.folk(), names), ropes, _called(company.posts(), names))


def named_standing(standing, names, rooms):
    """The standing whose folk are called by these names, and its rooms by those."""
    return {names[who]: rooms[standing[who]] for who in standing}


def _need_names(things, names):
    """Refuse what is no dict from just all of these to unlike names, of anything."""
    if not isinstance(names, dict) or len(names) != len(things):
        raise NoNames(names)
    if not all([thing in names for thing in things]) or wrong_names(_called(things, names)):
        raise NoNames(names)


def _called(things, names):
    return [names[thing] for thing in things]
