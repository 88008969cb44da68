"""Names joined in pairs: what rooms with doors and folk with ropes share.

Refusals differ between the two, so the functions that look for what is wrong
tell it in a list (empty where nothing is wrong), and the caller refuses it.
"""

LETTERS = "abcdefghijklmnopqrstuvwxyz"
LONGEST = 8


def is_name(thing):
    """Of anything: whether it is a name."""
    if not isinstance(thing, str) or not 1 <= len(thing) <= LONGEST:
        return False
    return all([sign in LETTERS for sign in thing])


def wrong_names(things):
    """Of anything: the field of the refusal where these are not names, one at least, all unlike."""
    if not isinstance(things, (list, tuple)):
        return [things]
    if len(things) == 0:
        return [()]
    ahead = set()
    for thing in things:
        if not is_name(thing) or thing in ahead:
            return [thing]
        ahead.add(thing)
    return []


def wrong_pairs(things, names):
    """Of anything: the field of the refusal where these are not pairs of such names, all unlike."""
    if not isinstance(things, (list, tuple)):
        return [things]
    ahead = set()
    for thing in things:
        if not _is_pair(thing, names):
            return [thing]
        pair = rising_pair(thing)
        if pair in ahead:
            return [thing]
        ahead.add(pair)
    return []


def _is_pair(thing, names):
    if not isinstance(thing, (list, tuple)) or len(thing) != 2:
        return False
    one, other = thing
    # names is a list or tuple, so that a thing which can't be a key may be looked for in it
    return one in names and other in names and one != other


def rising_pair(pair):
    """A pair as a tuple (lesser, greater)."""
    return min(pair[0], pair[1]), max(pair[0], pair[1])


def rising_pairs(pairs):
    """A tuple of tuples (lesser, greater), rising."""
    return tuple(sorted([rising_pair(pair) for pair in pairs]))


def neighbours(names, pairs):
    """A dict from each name to the list of those it is paired with, rising."""
    near = {name: [] for name in names}
    for one, other in pairs:
        near[one].append(other)
        near[other].append(one)
    return {name: sorted(near[name]) for name in names}


def spans(near, begin):
    """A dict from each name that hangs together with the begin to how few steps lead there."""
    found = {begin: 0}
    edge = [begin]
    while edge:
        ahead = []
        for name in edge:
            for other in near[name]:
                if other not in found:
                    found[other] = found[name] + 1
                    ahead.append(other)
        edge = ahead
    return found


def path(near, one, other):
    """A tuple of names by which the fewest steps lead from one to the other, or None."""
    left = spans(near, other)
    if one not in left:
        return None
    names = [one]
    while names[-1] != other:
        nearer = [name for name in near[names[-1]] if left[name] < left[names[-1]]]
        names.append(nearer[0])
    return tuple(names)


def hung_together(names, near):
    """All lists of names that hang together, each rising, rising."""
    parts = []
    done = set()
    for name in sorted(names):
        if name not in done:
            part = sorted(spans(near, name))
            for other in part:
                done.add(other)
            parts.append(part)
    return parts


def tree_and_spare(names, pairs):
    """Two lists of pairs, rising: those of the tree, and the spare ones beside it."""
    part = {name: name for name in names}
    tree = []
    spare = []
    for one, other in sorted(pairs):
        kept, lost = part[one], part[other]
        if kept == lost:
            spare.append((one, other))
        else:
            tree.append((one, other))
            part = {name: kept if part[name] == lost else part[name] for name in names}
    return tree, spare
