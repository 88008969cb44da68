"""Whether a standing is led to another, and by how few goings."""

from tautropes.errors import NotLed
from tautropes.leads import all_leads, need_both, tree_readings, walks_along
from tautropes.papers import paper
from tautropes.rings import named
from tautropes.standings import why_not
from tautropes.walks import behind, turned


def is_led(house, company, one, other):
    """Whether a row of goings leads from the one standing to the other."""
    return paper(house, company, one, other) is None


def _need_led(house, company, one, other):
    shown = paper(house, company, one, other)
    if shown is not None:
        raise NotLed(shown)


def fewest(house, company, one, other):
    """The fewest goings that lead from the one standing to the other."""
    return _steps_of(lead_to(house, company, one, other))


def way_to(house, company, one, other):
    """A row of the fewest goings from the one standing to the other, a list."""
    lead = lead_to(house, company, one, other)
    now = {who: one[who] for who in company.folk()}
    left = {who: lead[who][1:] for who in company.folk()}
    row = []
    for _ in range(_steps_of(lead)):
        # of those with most steps left one can always go on, others may have to wait
        most = max([len(left[who]) for who in left])
        ready = [(who, left[who][0]) for who in left if len(left[who]) == most]
        free = [going for going in ready if why_not(house, company, now, going) is None]
        who, room = free[0]
        row.append((who, room))
        now[who] = room
        left[who] = left[who][1:]
    return row


def lead_to(house, company, one, other):
    """A lead from the one standing to the other of the fewest steps together, a dict."""
    _need_led(house, company, one, other)
    lead = {}
    for lot in company.lots():
        walks = _least_walks(house, company, one, other, lot)
        for who in walks:
            lead[who] = walks[who]
    return lead


def least_of(house, company, one, other, folk):
    """How often this folk goes at least in any row that leads from the one standing to the other."""
    need_both(house, company, one, other)
    company.need_folk(folk)
    _need_led(house, company, one, other)
    told = all_leads(house, company, one, other, folk)
    if told[0] == "all":
        return house.steps(one[folk], other[folk])
    # it alone counts, however often the others of its lot go
    alone = {folk: ((one[folk],), (other[folk],))}
    return _steps_of(_least_along(alone, told))


def _steps_of(walks):
    return sum([len(walks[who]) - 1 for who in walks])


def _least_walks(house, company, one, other, lot):
    """The walks of the fewest steps together that are a lead of this lot, a dict."""
    told = all_leads(house, company, one, other, lot[0])
    if told[0] == "all":
        return _least_of_all(house, company, one, other, lot)
    return _least_along(tree_readings(company, one, other, lot[0]), told)


def _least_along(readings, told):
    """The walks of the fewest steps together along readings, by one folk's walk, told as one or turns."""
    best = walks_along(readings, told[1])
    if told[0] == "one":
        return best
    turn = told[2]
    for way in (turn, turned(turn)):
        walk, now, growing = told[1], walks_along(readings, told[1]), False
        # a walk that grows by a whole ring at one turn does so at all turns behind
        while not growing:
            walk, before = behind(way, walk), now
            now = walks_along(readings, walk)
            growing = all([len(now[who]) - len(before[who]) >= len(named(turn)) - 1 for who in now])
            if _steps_of(now) < _steps_of(best):
                best = now
    return best


def _least_of_all(house, company, one, other, lot):
    """The walks of the fewest steps together where each walk of a folk is a lead's, a dict.

    One by which a folk goes straight to where it or another one would stand has as few steps as any.
    """
    best = {}
    for who in lot:
        readings = tree_readings(company, one, other, who)
        for goal in lot:
            walk = behind(house.way(one[who], other[goal]), turned(readings[goal][1]))
            walks = walks_along(readings, walk)
            if not best or _steps_of(walks) < _steps_of(best):
                best = walks
    return best
