"""Companies: folk, ropes between them, and posts, who never go."""

from tautropes.errors import NoFolk, NoPost, NoRope
from tautropes.pairs import hung_together, neighbours, rising_pairs, wrong_names, wrong_pairs


class Company:
    """Folk, ropes and posts."""

    def __init__(self, folk, ropes, posts=()):
        wrong = wrong_names(folk)
        if wrong:
            raise NoFolk(wrong[0])
        wrong = wrong_pairs(ropes, folk)
        if wrong:
            raise NoRope(wrong[0])
        wrong = _wrong_posts(posts, folk)
        if wrong:
            raise NoPost(wrong[0])
        self._folk = tuple(sorted(folk))
        self._ropes = rising_pairs(ropes)
        self._posts = tuple(sorted(posts))
        self._near = neighbours(self._folk, self._ropes)

    def __eq__(self, other):
        return (isinstance(other, Company) and self._folk == other._folk
                and self._ropes == other._ropes and self._posts == other._posts)

    def twin(self):
        """Another company equal to this one."""
        return Company(self._folk, self._ropes, self._posts)

    def has_folk(self, thing):
        """Of anything: whether it is a folk of this company."""
        return thing in self._folk

    def need_folk(self, thing):
        """Refuse what is no folk of this company, of anything."""
        if not self.has_folk(thing):
            raise NoFolk(thing)

    def has_rope(self, one, other):
        """Whether there is a rope between these two folk."""
        return other in self._near[one]

    def folk(self):
        """All folk, a tuple, rising."""
        return self._folk

    def ropes(self):
        """All ropes, a list of tuples (lesser, greater), rising."""
        return list(self._ropes)

    def posts(self):
        """All posts, a tuple, rising."""
        return self._posts

    def roped(self, folk):
        """Those to whom this one is roped, a list, rising."""
        self.need_folk(folk)
        return list(self._near[folk])

    def lots(self):
        """All lists of folk that hang together by ropes, each rising, rising."""
        return hung_together(self._folk, self._near)


def _wrong_posts(things, folk):
    """Of anything: a list of the field of the refusal where these are not folk, all unlike, else empty."""
    if not isinstance(things, (list, tuple)):
        return [things]
    for place, thing in enumerate(things):
        if thing not in folk or thing in things[:place]:
            return [thing]
    return []


def is_rope_walk(company, thing):
    """Of anything: whether it is a rope-walk of this company."""
    if not isinstance(thing, tuple) or len(thing) == 0:
        return False
    if not all([company.has_folk(folk) for folk in thing]):
        return False
    return all([company.has_rope(one, other) for one, other in zip(thing, thing[1:])])
