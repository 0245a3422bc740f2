"""A row that is kept while arrows come, so that all arrows taken lead on in it."""

from fewturned.errors import NoArrows, NoNumber
from fewturned.parts import reached_from
from fewturned.rings import followers, shortest_from
from fewturned.webs import is_number, is_thing

MOST_THINGS_KEPT = 12
MOST_ARROWS_KEPT = 60


def is_coming(many, thing):
    if not isinstance(thing, tuple) or len(thing) != 2:
        return False
    return is_thing(many, thing[0]) and is_thing(many, thing[1]) and thing[0] != thing[1]


def check_coming(many, arrows):
    if not is_number(many, 1, MOST_THINGS_KEPT):
        raise NoNumber("this is no number of things")
    if not isinstance(arrows, list) or len(arrows) > MOST_ARROWS_KEPT:
        raise NoArrows("these are no arrows in a list, or too many")
    if not all([is_coming(many, arrow) for arrow in arrows]):
        raise NoArrows("not all of these are arrows between two unlike things")


def ring_by(many, taken, arrow):
    """A ring that comes by the arrow with the arrows taken, or None."""
    # The arrows taken alone have no ring, so one from the arrow's first thing goes along the arrow.
    return shortest_from(followers(many, taken + [arrow]), arrow[0])


def row_with(row, taken, arrow):
    """The row changed so that the arrow leads on in it, which it does not yet, and closes no ring."""
    many = len(row)
    span = row[row.index(arrow[1]):row.index(arrow[0]) + 1]
    led_to = reached_from(followers(many, taken), arrow[1])
    leading = reached_from(followers(many, [(behind, ahead) for ahead, behind in taken]), arrow[0])
    after = [thing for thing in span if thing in led_to]
    before = [thing for thing in span if thing in leading]
    # No thing is in both: there it would close a ring.
    places = [place for place, thing in enumerate(row) if thing in before + after]
    changed = list(row)
    for place, thing in zip(places, before + after):
        changed[place] = thing
    return tuple(changed)


def what_it_does(row, taken, arrow):
    if row.index(arrow[0]) < row.index(arrow[1]):
        return ("fits",)
    ring = ring_by(len(row), taken, arrow)
    if ring is not None:
        return ("ring", ring)
    return ("moved", row_with(row, taken, arrow))


def told_and_row(many, arrows):
    check_coming(many, arrows)
    row = tuple(range(many))
    taken = []
    told = []
    for arrow in arrows:
        does = what_it_does(row, taken, arrow)
        if does[0] != "ring":
            taken.append(arrow)
        if does[0] == "moved":
            row = does[1]
        told.append(does)
    return (told, row)


def kept(many, arrows):
    return told_and_row(many, arrows)[0]


def row_behind(many, arrows):
    return told_and_row(many, arrows)[1]
