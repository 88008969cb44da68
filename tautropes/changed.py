"""Companies and houses with one thing more or one out; two companies put together.

What can't be one thing more the new company or house refuses itself, as the last of its ropes, posts or doors.
"""

from tautropes.company import Company
from tautropes.errors import Alike, NoDoor, NoPost, NoRope
from tautropes.house import House


def tied(company, one, other):
    """The company with a rope more."""
    return Company(company.folk(), company.ropes() + [(one, other)], company.posts())


def cut(company, one, other):
    """The company with a rope out."""
    left = _without(company.ropes(), (one, other))
    if len(left) == len(company.ropes()):
        raise NoRope((one, other))
    return Company(company.folk(), left, company.posts())


def _without(pairs, out):
    """These pairs but one, told either way about, of anything."""
    return [pair for pair in pairs if pair not in (out, out[::-1])]


def posted(company, folk):
    """The company with a post more."""
    return Company(company.folk(), company.ropes(), company.posts() + (folk,))


def freed(company, folk):
    """The company in which this folk is no post."""
    if folk not in company.posts():
        raise NoPost(folk)
    return Company(company.folk(), company.ropes(), [who for who in company.posts() if who != folk])


def together(one, other, ropes):
    """Two companies as one, with ropes between them, the one's folk ahead in each."""
    for who in one.folk():
        if other.has_folk(who):
            raise Alike(who)
    wrong = _wrong_ropes(one, other, ropes)
    if wrong:
        raise NoRope(wrong[0])
    all_ropes = one.ropes() + other.ropes() + list(ropes)
    return Company(one.folk() + other.folk(), all_ropes, one.posts() + other.posts())


def _wrong_ropes(one, other, things):
    """Of anything: a list of the field of the refusal where these are not ropes between, all unlike, else empty."""
    if not isinstance(things, (list, tuple)):
        return [things]
    ahead = set()
    for thing in things:
        if not _is_between(one, other, thing) or tuple(thing) in ahead:
            return [thing]
        ahead.add(tuple(thing))
    return []


def _is_between(one, other, thing):
    if not isinstance(thing, (list, tuple)) or len(thing) != 2:
        return False
    return one.has_folk(thing[0]) and other.has_folk(thing[1])


def with_door(house, one, other):
    """The house with a door more."""
    return House(house.rooms(), house.doors() + [(one, other)])


def without_door(house, one, other):
    """The house with a door out."""
    left = _without(house.doors(), (one, other))
    if len(left) == len(house.doors()):
        raise NoDoor((one, other))
    return House(house.rooms(), left)
