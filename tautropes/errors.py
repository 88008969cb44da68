"""All refusals. Each keeps its fields as attributes."""


class NoRoom(ValueError):
    """What was asked for is no room, or can't be one."""

    def __init__(self, asked):
        self.asked = asked


class NoDoor(ValueError):
    """What was asked for is no door, or can't be one."""

    def __init__(self, asked):
        self.asked = asked


class NoFolk(ValueError):
    """What was asked for is no folk, or can't be one."""

    def __init__(self, asked):
        self.asked = asked


class NoRope(ValueError):
    """What was asked for is no rope, or can't be one."""

    def __init__(self, asked):
        self.asked = asked


class NoPost(ValueError):
    """What was asked for is no post, or can't be one."""

    def __init__(self, asked):
        self.asked = asked


class NoStanding(ValueError):
    """What was asked for is no standing."""

    def __init__(self, asked):
        self.asked = asked


class NoNames(ValueError):
    """What was asked for does not give each an unlike name."""

    def __init__(self, asked):
        self.asked = asked


class NoFold(ValueError):
    """What was asked for is no fold."""

    def __init__(self, asked):
        self.asked = asked


class Three(ValueError):
    """Three rooms have doors each to each."""

    def __init__(self, three):
        self.three = three


class Apart(ValueError):
    """One thing does not begin where another ends."""


class NotClosed(ValueError):
    """A walk does not end where it begins."""


class Nothing(ValueError):
    """A closed walk shrinks to one room."""


class Alike(ValueError):
    """Two companies have a like folk."""

    def __init__(self, like):
        self.like = like


class NoText(ValueError):
    """A row of a text can't stand where it stands."""

    def __init__(self, row):
        self.row = row


class NotGone(RuntimeError):
    """A going of a row can't be done."""

    def __init__(self, number, why):
        self.number = number
        self.why = why


class NotNear(RuntimeError):
    """Two folk stand neither in one room nor side by side."""

    def __init__(self, one, other):
        self.one = one
        self.other = other


class NotHeld(LookupError):
    """A folk is not held."""

    def __init__(self, asked):
        self.asked = asked


class NoLead(LookupError):
    """Walks are no lead."""

    def __init__(self, names):
        self.names = names


class NotLed(LookupError):
    """A standing is not led to another."""

    def __init__(self, paper):
        self.paper = paper


class NoLift(LookupError):
    """No standing above lies over the one below."""

    def __init__(self, walk):
        self.walk = walk


class NoMore(LookupError):
    """There is nothing more to take back or to do again."""

    def __init__(self, word):
        self.word = word


class NoMoment(IndexError):
    """What was asked for is no moment."""

    def __init__(self, asked):
        self.asked = asked


class NoNumber(IndexError):
    """What was asked for is no number of a row."""

    def __init__(self, asked):
        self.asked = asked


class TooMany(ArithmeticError):
    """There are more than can be listed."""

    def __init__(self, most):
        self.most = most
