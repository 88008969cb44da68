"""Rows of goings by a lead: which going comes ahead of which, how many rows there are, and each of them.

The k-th going of a folk is a tuple (folk, k), k from 1.
"""

from tautropes.errors import NoLead, NoNumber
from tautropes.leads import is_lead
from tautropes.standings import is_standing, need_standing, read
from tautropes.walks import behind, is_walk, turned


def ahead(house, company, one, lead):
    """All tuples of two goings of which the first comes ahead of the second in every row, a list, rising."""
    _need_lead(house, company, one, lead)
    all_goings = _goings_of(lead)
    before = _all_before(company, one, lead)
    return [(first, second) for place, first in enumerate(all_goings)
            for number, second in enumerate(all_goings) if before[number] >> place & 1]


def count_rows(house, company, one, lead):
    """How many rows there are by this lead."""
    _need_lead(house, company, one, lead)
    return _ways_on(_all_before(company, one, lead))[0]


def row_at(house, company, one, lead, number):
    """The number-th row by this lead, from 0, a list of goings."""
    _need_lead(house, company, one, lead)
    before = _all_before(company, one, lead)
    ways = _ways_on(before)
    if isinstance(number, bool) or not isinstance(number, int) or not 0 <= number < ways[0]:
        raise NoNumber(number)
    all_goings = _goings_of(lead)
    row = []
    done = 0
    while len(row) < len(all_goings):
        # each folk has but one next going, so rows rise as the folk of their goings do
        for place in _free(before, done):
            if number < ways[done | 1 << place]:
                break
            number -= ways[done | 1 << place]
        who, turn = all_goings[place]
        row.append((who, lead[who][turn]))
        done = done | 1 << place
    return row


def _need_lead(house, company, one, lead):
    """Refuse what is no standing, then what is no lead from it to any standing, of anything."""
    need_standing(house, company, one)
    if not isinstance(lead, dict) or not all([is_walk(house, lead[who]) for who in lead]):
        raise NoLead(())
    other = {who: lead[who][-1] for who in lead}
    if not is_standing(house, company, other) or not is_lead(house, company, one, other, lead):
        raise NoLead(())


def _goings_of(lead):
    """All goings by a lead, a list, rising."""
    return [(who, turn) for who in sorted(lead) for turn in range(1, len(lead[who]))]


def _all_before(company, one, lead):
    """For each going the bits of the places of all that come ahead of it in every row, a list."""
    all_goings = _goings_of(lead)
    before = []
    for who, turn in all_goings:
        bits = 0 if turn == 1 else 1 << all_goings.index((who, turn - 1))
        for near in company.roped(who):
            done = _least_done(one, lead, (who, turn), near)
            if done > 0:
                bits = bits | 1 << all_goings.index((near, done))
        before.append(bits)
    return _closed_up(before)


def _least_done(one, lead, going, near):
    """How often at least one roped to the folk of a going must have gone ahead of it."""
    done = 0
    while not _hangs(one, lead, going, (near, done)):
        done += 1
    return done


def _hangs(one, lead, first, second):
    """Whether the rope hangs on, and isn't wound round a ring, when its two folk have gone so often."""
    walk = behind(turned(lead[first[0]][:first[1] + 1]), read(one, (first[0], second[0])))
    return len(behind(walk, lead[second[0]][:second[1] + 1])) <= 2


def _closed_up(before):
    """The same, with what comes ahead of what comes ahead, and so on."""
    for middle in range(len(before)):
        before = [bits | before[middle] if bits >> middle & 1 else bits for bits in before]
    return before


def _free(before, done):
    """The places of the goings that may come next when those of these bits are done, a list, rising."""
    return [place for place, bits in enumerate(before) if not done >> place & 1 and bits & done == bits]


def _ways_on(before):
    """A dict from the bits of goings that may be done so far to how many orders there are of the others."""
    layers = [[0]]
    for _ in before:
        longer = {done | 1 << place: True for done in layers[-1] for place in _free(before, done)}
        layers.append(list(longer))
    ways = {layers[-1][0]: 1}
    for layer in layers[-2::-1]:
        for done in layer:
            ways[done] = sum([ways[done | 1 << place] for place in _free(before, done)])
    return ways
