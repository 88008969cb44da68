"""Acts: what is done in a hall.

An act is a tuple of its word and those it is of: ("go", folk, room), ("tie", one, other),
("cut", one, other), ("post", folk) or ("free", folk). Of each word WORDS tells of how many.
"""

from tautropes.changed import cut, freed, posted, tied
from tautropes.errors import NotNear
from tautropes.standings import gone

WORDS = {"go": 2, "tie": 2, "cut": 2, "post": 1, "free": 1}


def behind_act(house, company, standing, act):
    """The company and the standing behind an act, refused as the act is, of anything but its word."""
    if act[0] == "go":
        return company, gone(house, company, standing, [act[1:]])
    return _company_behind(house, company, standing, act), standing


def _company_behind(house, company, standing, act):
    word = act[0]
    if word == "tie":
        return _tied_near(house, company, standing, act[1], act[2])
    if word == "cut":
        return cut(company, act[1], act[2])
    if word == "post":
        return posted(company, act[1])
    return freed(company, act[1])


def _tied_near(house, company, standing, one, other):
    roped = tied(company, one, other)
    if not house.side_by_side(standing[one], standing[other]):
        raise NotNear(one, other)
    return roped
