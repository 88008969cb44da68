"""Houses: rooms, and doors between them."""

from tautropes.errors import NoDoor, NoRoom, Three
from tautropes.pairs import hung_together, neighbours, path, rising_pairs, wrong_names, wrong_pairs


class House:
    """Rooms and doors, no three rooms with doors each to each."""

    def __init__(self, rooms, doors):
        wrong = wrong_names(rooms)
        if wrong:
            raise NoRoom(wrong[0])
        wrong = wrong_pairs(doors, rooms)
        if wrong:
            raise NoDoor(wrong[0])
        self._rooms = tuple(sorted(rooms))
        self._doors = rising_pairs(doors)
        self._near = neighbours(self._rooms, self._doors)
        self._refuse_three()

    def __eq__(self, other):
        return isinstance(other, House) and self._rooms == other._rooms and self._doors == other._doors

    def _refuse_three(self):
        # doors come rising with the lesser room first, so the first three found is the least
        for one, other in self._doors:
            for third in self._near[other]:
                if third > other and third in self._near[one]:
                    raise Three((one, other, third))

    def twin(self):
        """Another house equal to this one."""
        return House(self._rooms, self._doors)

    def has_room(self, thing):
        """Of anything: whether it is a room of this house."""
        return thing in self._rooms

    def need_room(self, thing):
        """Refuse what is no room of this house, of anything."""
        if not self.has_room(thing):
            raise NoRoom(thing)

    def has_door(self, one, other):
        """Whether there is a door between these two rooms."""
        return other in self._near[one]

    def side_by_side(self, one, other):
        """Whether these two are one room, or have a door between."""
        return one == other or self.has_door(one, other)

    def rooms(self):
        """All rooms, a tuple, rising."""
        return self._rooms

    def doors(self):
        """All doors, a list of tuples (lesser, greater), rising."""
        return list(self._doors)

    def beside(self, room):
        """The rooms beside this one, a list, rising."""
        self.need_room(room)
        return list(self._near[room])

    def parts(self):
        """All lists of rooms that hang together, each rising, rising."""
        return hung_together(self._rooms, self._near)

    def steps(self, one, other):
        """How few doors a walk from one to the other goes through, or None."""
        walk = self.way(one, other)
        return None if walk is None else len(walk) - 1

    def way(self, one, other):
        """A walk from one to the other with the fewest steps, or None."""
        self.need_room(one)
        self.need_room(other)
        return path(self._near, one, other)
