"""A hall's text, a row for each thing; and the hall of a text."""

from tautropes.acts import WORDS
from tautropes.company import Company
from tautropes.errors import NoDoor, NoFolk, NoPost, NoRoom, NoRope, NotGone, NotNear, NoText, Three
from tautropes.hall import Hall
from tautropes.house import House


def show_hall(hall):
    """The text of a hall: its house, first company and first standing, and its acts."""
    house, company, standing = hall.house(), hall.company_at(0), hall.standing_at(0)
    rows = [("room", room) for room in house.rooms()]
    rows.extend([("door", one, other) for one, other in house.doors()])
    rows.extend([("folk", who) for who in company.folk()])
    rows.extend([("rope", one, other) for one, other in company.ropes()])
    rows.extend([("post", who) for who in company.posts()])
    rows.extend([("at", who, standing[who]) for who in company.folk()])
    rows.append(("acts",))
    rows.extend(hall.acts())
    return "\n".join([" ".join(row) for row in rows])


def read_hall(text):
    """The hall of which this is the text, of anything."""
    if not isinstance(text, str):
        raise NoText(0)
    rows = [tuple(row.split(" ")) for row in text.split("\n")]
    house = _read_house(rows)
    place = len(house.rooms()) + len(house.doors())
    company = _read_company(rows, place)
    place += len(company.folk()) + len(company.ropes()) + len(company.posts())
    hall = Hall(house, company, _read_standing(rows, place, house, company))
    place += len(company.folk())
    if place == len(rows) or rows[place] != ("acts",):
        raise NoText(place)
    for number in range(place + 1, len(rows)):
        if not _is_done(hall, rows[number]):
            raise NoText(number)
    return hall


def _taken(rows, place, head, fits):
    """The names in all rows from this place on that can stand there, as many rows as there are, a list of tuples.

    Such a row has the word of the head, and behind it as many names as the head: rising, and behind those ahead.
    """
    taken = []
    for row in rows[place:]:
        names = row[1:]
        if row[0] != head[0] or len(row) != len(head) or list(names) != sorted(names):
            return taken
        if (taken and names <= taken[-1]) or not fits(taken + [names]):
            return taken
        taken.append(names)
    return taken


def _firsts(taken):
    return [names[0] for names in taken]


def _read_house(rows):
    """The house of the first rows."""
    rooms = _firsts(_taken(rows, 0, ("room", "NAME"), lambda taken: _is_house(_firsts(taken), [])))
    if not rooms:
        raise NoText(0)
    doors = _taken(rows, len(rooms), ("door", "ROOM", "ROOM"), lambda taken: _is_house(rooms, taken))
    return House(rooms, doors)


def _is_house(rooms, doors):
    try:
        House(rooms, doors)
    except (NoRoom, NoDoor, Three):
        return False
    return True


def _read_company(rows, place):
    """The company of the rows from this place on."""
    folk = _firsts(_taken(rows, place, ("folk", "NAME"), lambda taken: _is_company(_firsts(taken), [], [])))
    if not folk:
        raise NoText(place)
    place += len(folk)
    ropes = _taken(rows, place, ("rope", "FOLK", "FOLK"), lambda taken: _is_company(folk, taken, []))
    place += len(ropes)
    posts = _taken(rows, place, ("post", "FOLK"), lambda taken: _is_company(folk, ropes, _firsts(taken)))
    return Company(folk, ropes, _firsts(posts))


def _is_company(folk, ropes, posts):
    try:
        Company(folk, ropes, posts)
    except (NoFolk, NoRope, NoPost):
        return False
    return True


def _read_standing(rows, place, house, company):
    """The standing of the rows from this place on, one for each folk."""
    standing = {}
    for number, who in enumerate(company.folk(), start=place):
        if number == len(rows) or not _can_stand(house, company, standing, who, rows[number]):
            raise NoText(number)
        standing[who] = rows[number][2]
    return standing


def _can_stand(house, company, standing, who, row):
    """Whether a row lets this folk stand in a room that its roped ones who stand already let it stand in."""
    if len(row) != 3 or row[:2] != ("at", who) or not house.has_room(row[2]):
        return False
    return all([house.side_by_side(row[2], standing[near]) for near in company.roped(who) if near in standing])


def _is_done(hall, row):
    """Whether a row is an act that the hall lets be done, which then is done."""
    if WORDS.get(row[0]) != len(row) - 1:
        return False
    try:
        hall.do(row)
    except (NotGone, NoRope, NoPost, NotNear):
        return False
    return True
