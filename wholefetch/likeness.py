"""ALIKE FETCHes, which have the same HISTORIES, and CHECKs that are NEEDLESS."""

from wholefetch.errors import BadQuestion
from wholefetch.fetches import arrows, arrows_of, need_fetch, without
from wholefetch.gaps import follows, raised, strict_ring


def alike(one, other):
    """Whether two FETCHes have the same HISTORIES."""
    return parted(one, other) is None


def parted(one, other):
    """A HISTORY of just one of two FETCHes, or None."""
    told = arrows(one)
    others = arrows(other)
    if len(one[2]) != len(other[2]):
        raise BadQuestion("these fetches have unlike numbers of reads")
    return parting(told, others, len(one[2]))


def needless(fetch):
    """The ascending tuple of the numbers of the NEEDLESS CHECKs."""
    house, size, reads, checks = need_fetch(fetch)
    return tuple([at for at in range(len(checks)) if is_needless(house, reads, checks, at)])


def lean(fetch):
    """The FETCH without the first NEEDLESS CHECK, and so on until none is."""
    house, size, reads, checks = need_fetch(fetch)
    at = 0
    # A CHECK that is wanted is still wanted when others are left out, so none is asked for twice.
    while at < len(checks):
        if is_needless(house, reads, checks, at):
            checks = without(checks, at)
        else:
            at += 1
    return (house, size, reads, checks)


def is_needless(house, reads, checks, at):
    """Whether a CHECK is NEEDLESS beside the others."""
    told = arrows_of(house, reads, checks)
    return parting(told, arrows_of(house, reads, without(checks, at)), len(reads)) is None


def parting(told, others, many):
    """A PARTING of FETCHes of so many READs with these ARROWs and others, or None."""
    for mine, theirs in ((told, others), (others, told)):
        for history in telling_histories(mine, many):
            if not follows(theirs, history):
                return history
    return None


def telling_histories(told, many):
    """The list of HISTORIES, one for each READ, that tell all GAPs; none of an IMPOSSIBLE FETCH.

    In that of a READ, it is newer than any is in the LEAST HISTORY, and all others are as old as they can be
    then: each READ to which a WAY leads from it is newer just by the GAP, and each other one is elder.
    So it breaks an ARROW of each FETCH in which a GAP from this READ is greater.
    """
    if strict_ring(told) is not None:
        return []
    return [tuple(raised(told, [many * int(at == start) for at in range(many)])) for start in range(many)]
