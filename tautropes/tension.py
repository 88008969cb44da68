"""The rings of a lot by its spare ropes; what stays of a closed rope-walk."""

from tautropes.pairs import neighbours, path, spans, tree_and_spare
from tautropes.rings import named
from tautropes.standings import read
from tautropes.walks import need_closed, turned


def tree_walks(company, folk):
    """A dict from each of this folk's lot to the rope-walk along the tree from this folk to it."""
    company.need_folk(folk)
    tree, _ = tree_and_spare(company.folk(), company.ropes())
    near = neighbours(company.folk(), tree)
    return {other: path(near, folk, other) for other in sorted(spans(near, folk))}


def rope_rings(company, folk):
    """For each spare rope of this folk's lot the closed rope-walk along the tree and through it, a list."""
    walks = tree_walks(company, folk)
    _, spare = tree_and_spare(company.folk(), company.ropes())
    return [walks[lesser] + turned(walks[greater]) for lesser, greater in spare if lesser in walks]


def tension(standing, rope_walk):
    """The name of a closed rope-walk's reading."""
    need_closed(rope_walk)
    return named(read(standing, rope_walk))


def slack(standing, rope_walk):
    """How many ropes a closed rope-walk has more than the ring of its reading has steps."""
    ring = tension(standing, rope_walk)
    # a name tells its first room twice, but the name of nothing is empty
    return len(rope_walk) - 1 - max(len(ring) - 1, 0)
