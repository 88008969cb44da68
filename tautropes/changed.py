"""Companies and houses with one thing more or one out; two companies put together."""

from tautropes.company import Company
from tautropes.errors import Alike, NoDoor, NoPost, NoRope
from tautropes.house import House
from tautropes.pairs import rising_pair


def tied(company, one, other):
    """The company with a rope more."""
    if not _are_two_folk(company, one, other) or company.has_rope(one, other):
        raise NoRope((one, other))
    return Company(company.folk(), company.ropes() + [(one, other)], company.posts())


def cut(company, one, other):
    """The company with a rope out."""
    if not _are_two_folk(company, one, other) or not company.has_rope(one, other):
        raise NoRope((one, other))
    return Company(company.folk(), _without(company.ropes(), (one, other)), company.posts())


def _are_two_folk(company, one, other):
    """Of anything: whether these are two unlike folk of this company."""
    return company.has_folk(one) and company.has_folk(other) and one != other


def _without(pairs, out):
    return [pair for pair in pairs if pair != rising_pair(out)]


def posted(company, folk):
    """The company with a post more."""
    if not company.has_folk(folk) or folk in company.posts():
        raise NoPost(folk)
    return Company(company.folk(), company.ropes(), company.posts() + (folk,))


def freed(company, folk):
    """The company in which this folk is no post."""
    if folk not in company.posts():
        raise NoPost(folk)
    return Company(company.folk(), company.ropes(), [who for who in company.posts() if who != folk])


def together(one, other, ropes):
    """Two companies as one, with ropes between them, the one's folk ahead in each."""
    for who in one.folk():
        if other.has_folk(who):
            raise Alike(who)
    wrong = _wrong_ropes(one, other, ropes)
    if wrong:
        raise NoRope(wrong[0])
    all_ropes = one.ropes() + other.ropes() + list(ropes)
    return Company(one.folk() + other.folk(), all_ropes, one.posts() + other.posts())


def _wrong_ropes(one, other, things):
    """Of anything: a list of the field of the refusal where these are not ropes between, all unlike, else empty."""
    if not isinstance(things, (list, tuple)):
        return [things]
    ahead = set()
    for thing in things:
        if not _is_between(one, other, thing) or tuple(thing) in ahead:
            return [thing]
        ahead.add(tuple(thing))
    return []


def _is_between(one, other, thing):
    if not isinstance(thing, (list, tuple)) or len(thing) != 2:
        return False
    return one.has_folk(thing[0]) and other.has_folk(thing[1])


def with_door(house, one, other):
    """The house with a door more."""
    if not _are_two_rooms(house, one, other) or house.has_door(one, other):
        raise NoDoor((one, other))
    return House(house.rooms(), house.doors() + [(one, other)])


def without_door(house, one, other):
    """The house with a door out."""
    if not _are_two_rooms(house, one, other) or not house.has_door(one, other):
        raise NoDoor((one, other))
    return House(house.rooms(), _without(house.doors(), (one, other)))


def _are_two_rooms(house, one, other):
    """Of anything: whether these are two unlike rooms of this house."""
    return house.has_room(one) and house.has_room(other) and one != other
