"""What can be KEPT of a FETCH: the bytes of READs that are surely of one version."""

from wholefetch.fetches import need_fetch
from wholefetch.further import arrows_of_glue
from wholefetch.gaps import need_possible
from wholefetch.together import classes


def cover(fetch, glue):
    """The COVER of a GLUE."""
    told = arrows_of_glue(fetch, glue)
    need_possible(told)
    return cover_of(fetch, glue)


def most_kept(fetch):
    """How many bytes are the most that can be KEPT."""
    return count_bytes(cover_of(fetch, best(fetch)))


def best(fetch):
    """The first BEST CLASS."""
    parts = classes(fetch)
    counts = [count_bytes(cover_of(fetch, part)) for part in parts]
    return parts[counts.index(max(counts))]


def missing(fetch):
    """The ascending tuple of the pairs (FROM, TO) beside the COVER of what best tells."""
    size = need_fetch(fetch)[1]
    pairs = []
    at = 0
    for start, stop in cover_of(fetch, best(fetch)) + ((size, size),):
        if at < start:
            pairs.append((at, start))
        at = stop
    return tuple(pairs)


def is_whole(fetch):
    """Whether nothing is MISSING."""
    return missing(fetch) == ()


def cover_of(fetch, numbers):
    """The ascending tuple of the pairs (FROM, TO) of the bytes of READs, those that meet being one."""
    pairs = []
    for start, stop in sorted([fetch[2][at][3:] for at in numbers]):
        if len(pairs) > 0 and start <= pairs[-1][1]:
            pairs[-1] = (pairs[-1][0], max(pairs[-1][1], stop))
        else:
            pairs.append((start, stop))
    return tuple(pairs)


def count_bytes(pairs):
    """How many bytes a COVER has."""
    return sum([stop - start for start, stop in pairs])
