"""Papers that a standing isn't led to another."""

from tautropes.company import is_rope_walk
from tautropes.leads import all_leads, need_both
from tautropes.rings import all_leaders
from tautropes.standings import read
from tautropes.taut import shows_held
from tautropes.walks import shrunk

MOST_RINGS = 3


def paper(house, company, one, other):
    """A paper that the one standing isn't led to the other, None where it is."""
    need_both(house, company, one, other)
    for lot in company.lots():
        told = all_leads(house, company, one, other, lot[0])
        if told[0] == "none":
            return told[1]
    return None


def is_paper(house, company, one, other, thing):
    """Of anything: whether it is a paper that the one standing isn't led to the other."""
    need_both(house, company, one, other)
    if not isinstance(thing, tuple) or len(thing) < 2:
        return False
    if thing[0] == "held" and len(thing) == 3:
        return _is_of_held(house, company, one, other, thing)
    if thing[0] == "walk" and len(thing) == 4:
        return _is_of_walk(house, company, one, other, thing)
    if thing[0] == "apart" and len(thing) == 2:
        return company.has_folk(thing[1]) and house.way(one[thing[1]], other[thing[1]]) is None
    if thing[0] == "rings" and len(thing) == 2:
        return _are_rings(company, thing[1]) and _bar_together(house, one, other, thing[1])
    return False


def _is_of_held(house, company, one, other, thing):
    _, folk, shown = thing
    if not company.has_folk(folk) or one[folk] == other[folk]:
        return False
    return shows_held(house, company, one, folk, shown)


def _is_of_walk(house, company, one, other, thing):
    _, rope_walk, first, last = thing
    if not is_rope_walk(company, rope_walk):
        return False
    if not shows_held(house, company, one, rope_walk[0], first):
        return False
    if not shows_held(house, company, one, rope_walk[-1], last):
        return False
    return shrunk(read(one, rope_walk)) != shrunk(read(other, rope_walk))


def _are_rings(company, things):
    """Of anything: whether these are closed rope-walks, one to three, that begin with one folk."""
    if not isinstance(things, tuple) or not 1 <= len(things) <= MOST_RINGS:
        return False
    if not all([is_rope_walk(company, thing) for thing in things]):
        return False
    return all([thing[0] == things[0][0] and thing[-1] == thing[0] for thing in things])


def _bar_together(house, one, other, rope_walks):
    """Whether no walk leads all readings of these closed rope-walks in the one standing to those in the other."""
    pairs = [(shrunk(read(one, ring)), shrunk(read(other, ring))) for ring in rope_walks]
    folk = rope_walks[0][0]
    return all_leaders(house, one[folk], other[folk], pairs)[0] == "none"
