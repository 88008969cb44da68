"""Leads: walks of all folk from where they stand to where they would, that fit at each rope."""

from tautropes.errors import Apart, NoLead
from tautropes.rings import all_leaders
from tautropes.standings import need_standing, read
from tautropes.taut import held, held_paper
from tautropes.tension import rope_rings, tree_walks
from tautropes.walks import behind, is_walk, shrunk, turned


def need_both(house, company, one, other):
    """Refuse the first of two that is no standing, of anything."""
    need_standing(house, company, one)
    need_standing(house, company, other)


def is_lead(house, company, one, other, thing):
    """Of anything: whether it is a lead from the one standing to the other."""
    need_both(house, company, one, other)
    if not isinstance(thing, dict) or len(thing) != len(company.folk()):
        return False
    for who in company.folk():
        if who not in thing or not _is_own_walk(house, one[who], other[who], thing[who]):
            return False
    if not all([_fits(one, other, thing, rope) for rope in company.ropes()]):
        return False
    return all([len(thing[who]) == 1 for who in held(house, company, one)])


def _is_own_walk(house, begin, end, thing):
    """Of anything: whether it is a shrunk walk from one room to another."""
    if not is_walk(house, thing):
        return False
    return thing[0] == begin and thing[-1] == end and shrunk(thing) == thing


def _fits(one, other, walks, rope):
    """Whether the walks of two that are roped are, but for the rope, one walk."""
    lesser, greater = rope
    walk = behind(read(one, (greater, lesser)), walks[lesser])
    return behind(walk, read(other, (lesser, greater))) == walks[greater]


def spread(house, company, one, other, folk, walk):
    """The walks of this folk's lot by its own walk, a dict."""
    need_both(house, company, one, other)
    company.need_folk(folk)
    if walk[0] != one[folk] or walk[-1] != other[folk]:
        raise Apart()
    walks = walks_along(tree_readings(company, one, other, folk), walk)
    for rope in company.ropes():
        if rope[0] in walks and not _fits(one, other, walks, rope):
            raise NoLead(rope)
    for who in held(house, company, one):
        if who in walks and len(walks[who]) > 1:
            raise NoLead((who,))
    return walks


def tree_readings(company, one, other, folk):
    """A dict from each of this folk's lot to two readings of ropes of the tree.

    The first leads from it to the folk in the one standing, the second from the folk to it in the other.
    """
    walks = tree_walks(company, folk)
    return {who: (turned(read(one, walks[who])), read(other, walks[who])) for who in walks}


def walks_along(readings, walk):
    """The walks by one folk's walk, with the readings of its lot's tree from this folk, a dict."""
    return {who: behind(behind(readings[who][0], walk), readings[who][1]) for who in readings}


def all_leads(house, company, one, other, folk):
    """All leads of this folk's lot, told by its own walk: a tuple that begins with none, one, turns or all."""
    need_both(house, company, one, other)
    company.need_folk(folk)
    walks = tree_walks(company, folk)
    firm = [who for who in held(house, company, one) if who in walks]
    if firm:
        return _leads_of_held(house, company, one, other, firm, walks)
    rings = rope_rings(company, folk)
    pairs = [(shrunk(read(one, ring)), shrunk(read(other, ring))) for ring in rings]
    told = all_leaders(house, one[folk], other[folk], pairs)
    if told[0] != "none":
        return told
    if not told[1]:
        return "none", ("apart", folk)
    return "none", ("rings", tuple([rings[number] for number in told[1]]))


def _leads_of_held(house, company, one, other, firm, walks):
    """All leads of a lot in which some are held, told by the walk of the folk whose tree walks these are."""
    for who in firm:
        if one[who] != other[who]:
            return "none", ("held", who, held_paper(house, company, one, who))
    begin = firm[0]
    from_held = tree_walks(company, begin)
    for rope_walk in rope_rings(company, begin) + [from_held[who] for who in firm]:
        if shrunk(read(one, rope_walk)) != shrunk(read(other, rope_walk)):
            papers = [held_paper(house, company, one, who) for who in (begin, rope_walk[-1])]
            return "none", ("walk", rope_walk, papers[0], papers[1])
    return "one", behind(read(one, walks[begin]), turned(read(other, walks[begin])))
