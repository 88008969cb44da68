"""The hall: folk go in a house while ropes are tied and cut, and what was done can be taken back."""

from tautropes.acts import behind_act
from tautropes.errors import NoMoment, NoMore
from tautropes.standings import is_standing, need_standing
from tautropes.walks import shrunk
from tautropes.wants import wants
from tautropes.ways import fewest, is_led


class Hall:
    """A house, and its company and standing at each moment, from the first to now."""

    def __init__(self, house, company, standing):
        need_standing(house, company, standing)
        self._house = house.twin()
        self._companies = [company.twin()]
        self._standings = [dict(standing)]
        self._acts = []
        self._undone = []

    def __eq__(self, other):
        return (isinstance(other, Hall) and self._house == other._house
                and self._companies[0] == other._companies[0] and self._standings[0] == other._standings[0]
                and self._acts == other._acts)

    def go(self, folk, room):
        """A folk goes to a room."""
        self.do(("go", folk, room))

    def tie(self, one, other):
        """A rope is tied between two."""
        self.do(("tie", one, other))

    def cut(self, one, other):
        """The rope between two is cut."""
        self.do(("cut", one, other))

    def post(self, folk):
        """A folk becomes a post."""
        self.do(("post", folk))

    def free(self, folk):
        """A folk is a post no more."""
        self.do(("free", folk))

    def do(self, act):
        """Do an act, told as a tuple, and let go what was taken back."""
        self._add(act)
        self._undone = []

    def _add(self, act):
        company, standing = behind_act(self._house, self._companies[-1], self._standings[-1], act)
        self._companies.append(company)
        self._standings.append(standing)
        self._acts.append(act)

    def house(self):
        """Its house."""
        return self._house.twin()

    def company_at(self, moment=None):
        """The company of now, or when so many acts were done."""
        return self._companies[self._moment(moment)].twin()

    def standing_at(self, moment=None):
        """The standing of now, or when so many acts were done."""
        return dict(self._standings[self._moment(moment)])

    def _moment(self, thing):
        """Of anything: the number of acts done by then, for None by now."""
        if thing is None:
            return len(self._acts)
        if isinstance(thing, bool) or not isinstance(thing, int) or not 0 <= thing <= len(self._acts):
            raise NoMoment(thing)
        return thing

    def acts(self):
        """All acts done, a list of tuples."""
        return list(self._acts)

    def back(self):
        """Take the last act back, and tell it."""
        if not self._acts:
            raise NoMore("back")
        act = self._acts.pop()
        self._companies.pop()
        self._standings.pop()
        self._undone.append(act)
        return act

    def on(self):
        """Do the act that was taken back last again, and tell it."""
        if not self._undone:
            raise NoMore("on")
        act = self._undone.pop()
        self._add(act)
        return act

    def can(self, other):
        """Whether this standing can be come to by goings alone."""
        return is_led(self._house, self._companies[-1], self._standings[-1], other)

    def home(self):
        """The fewest goings to the first standing, or None."""
        company, now, first = self._companies[-1], self._standings[-1], self._standings[0]
        if not is_standing(self._house, company, first) or not is_led(self._house, company, now, first):
            return None
        return fewest(self._house, company, now, first)

    def wants(self, folk, room):
        """What this folk's going to this room wants now, a tuple that begins with goes or barred."""
        return wants(self._house, self._companies[-1], self._standings[-1], folk, room)

    def often(self):
        """A dict from each folk to how often it has gone so far."""
        return {who: len(self._gone_to(who)) for who in self._companies[0].folk()}

    def trail(self, folk):
        """The steps of this folk so far, shrunk, from its first room."""
        self._companies[0].need_folk(folk)
        return shrunk([self._standings[0][folk]] + self._gone_to(folk))

    def _gone_to(self, folk):
        """The rooms to which this folk has gone, a list."""
        return [act[2] for act in self._acts if act[0] == "go" and act[1] == folk]
