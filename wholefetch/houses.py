"""HOUSEs: the PLACEs that show a file, and which of them are mirrors of which."""

from wholefetch.errors import BadHouse, BadNumber
from wholefetch.forms import is_name, is_row

MOST_PLACES = 4


def need_house(thing):
    """The HOUSE itself; BadHouse of anything else."""
    if not is_row(thing, 1, MOST_PLACES):
        raise BadHouse(None)
    for at, item in enumerate(thing):
        if not is_house_item(item) or (at > 0 and item[0] <= thing[at - 1][0]):
            raise BadHouse(at)
    names = [name for name, of in thing]
    for at, (name, of) in enumerate(thing):
        if of is not None and of not in names:
            raise BadHouse(at)
    for at, (name, of) in enumerate(thing):
        if name in places_beyond(thing, name):
            raise BadHouse(at)
    return thing


def is_house_item(thing):
    """Whether it is a pair of a PLACE and of None or a PLACE."""
    return is_row(thing, 2, 2) and is_name(thing[0]) and (thing[1] is None or is_name(thing[1]))


def places_beyond(house, place):
    """The list of the PLACEs that going on from one comes to, nearest first."""
    ofs = {name: of for name, of in house}
    beyond = []
    at = ofs[place]
    # A house that is not yet approved may lead round for ever; as many steps as places show that.
    while at is not None and len(beyond) < len(house):
        beyond.append(at)
        at = ofs[at]
    return beyond


def lies_under(house, place, other):
    """Whether a PLACE of a HOUSE is UNDER another one, or itself."""
    return place == other or other in places_beyond(house, place)


def is_place_of(house, thing):
    """Whether it is a PLACE of the HOUSE."""
    return is_name(thing) and thing in [name for name, of in house]


def is_under(house, place, other):
    """Whether a PLACE is UNDER another one, or itself."""
    need_house(house)
    for given in (place, other):
        if not is_place_of(house, given):
            raise BadNumber(given)
    return lies_under(house, place, other)
