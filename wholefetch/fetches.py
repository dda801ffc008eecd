"""FETCHes: READs of the PLACEs of a HOUSE, the CHECKs that have passed, and their ARROWs."""

from wholefetch.errors import BadFetch, BadHouse, BadNumber
from wholefetch.forms import is_between, is_row, is_word
from wholefetch.houses import is_place_of, lies_under, need_house

MOST_BYTES = 1000000000
MOST_READS = 12
MOST_CHECKS = 24
LAST_MOMENT = 9999
WORDS = ("same", "upto", "newer")


def need_fetch(thing):
    """The FETCH itself; BadFetch of anything else."""
    if not is_row(thing, 4, 4):
        raise BadFetch("form", None)
    house, size, reads, checks = thing
    try:
        need_house(house)
    except BadHouse as why:
        raise BadFetch("house", why.number) from None
    if not is_between(size, 1, MOST_BYTES):
        raise BadFetch("size", None)
    if not is_row(reads, 1, MOST_READS):
        raise BadFetch("reads", None)
    for at, read in enumerate(reads):
        if not is_read(house, size, read):
            raise BadFetch("reads", at)
    if not is_row(checks, 0, MOST_CHECKS):
        raise BadFetch("checks", None)
    for at, check in enumerate(checks):
        if not is_check(len(reads), check):
            raise BadFetch("checks", at)
    return thing


def is_read(house, size, thing):
    """Whether it is a READ of a PLACE of the HOUSE, of bytes of a file of this SIZE."""
    if not is_row(thing, 5, 5):
        return False
    place, begin, end, start, stop = thing
    return is_place_of(house, place) and is_span(begin, end, LAST_MOMENT) and is_span(start, stop, size)


def is_span(low, high, top):
    """Whether they are integers from 0 to top, the first one less than the other one."""
    return is_between(low, 0, top) and is_between(high, 0, top) and low < high


def is_check(many, thing):
    """Whether it is a CHECK of two of so many READs."""
    if not is_row(thing, 3, 3):
        return False
    one, word, other = thing
    if not is_word(word, WORDS):
        return False
    return is_between(one, 0, many - 1) and is_between(other, 0, many - 1) and one != other


def need_number(fetch, given):
    """The number of a READ of the FETCH; BadNumber of anything else."""
    if not is_between(given, 0, len(fetch[2]) - 1):
        raise BadNumber(given)
    return given


def with_check(fetch, check):
    """The FETCH with a CHECK put behind the others; BadFetch of what comes of it."""
    house, size, reads, checks = fetch
    return need_fetch((house, size, reads, checks + (check,)))


def without_check(fetch, number):
    """The FETCH with a CHECK taken out; BadNumber of what is no number of one."""
    house, size, reads, checks = fetch
    if not is_between(number, 0, len(checks) - 1):
        raise BadNumber(number)
    return (house, size, reads, without(checks, number))


def without(checks, at):
    """The CHECKs but one."""
    return checks[:at] + checks[at + 1:]


def arrows(fetch):
    """The ascending tuple of the triples (A, B, STRICT): an ARROW leads from READ A to READ B."""
    house, size, reads, checks = need_fetch(fetch)
    return arrows_of(house, reads, checks)


def arrows_of(house, reads, checks):
    """The ARROWs as arrows tells them, of any number of CHECKs."""
    strict = {pair: False for pair in arrows_of_moments(house, reads)}
    for check in checks:
        for one, other, rises in arrows_of_check(check):
            strict[(one, other)] = rises or strict.get((one, other), False)
    return tuple([(one, other, strict[(one, other)]) for one, other in sorted(strict)])


def arrows_of_moments(house, reads):
    """The list of the pairs of READs of which one ends ahead of the other and lies UNDER it."""
    pairs = []
    for one, (place, begin, end, start, stop) in enumerate(reads):
        for other, later in enumerate(reads):
            if end <= later[1] and lies_under(house, place, later[0]):
                pairs.append((one, other))
    return pairs


def arrows_of_check(check):
    """The list of the ARROWs that a CHECK brings, with whether each is STRICT."""
    one, word, other = check
    if word == "newer":
        return [(other, one, True)]
    if word == "upto":
        return [(one, other, False)]
    return [(one, other, False), (other, one, False)]
