"""READs that GO TOGETHER: those of one version in all HISTORIES, with PAPERs on two of them."""

from wholefetch.errors import BadPaper
from wholefetch.fetches import arrows, need_number
from wholefetch.forms import is_row, is_word
from wholefetch.gaps import (follows, has_history_form, has_way_form, is_ring, least_history, need_possible, raised,
                             way_between)

PAIR_PAPERS = ("ring", "apart")


def together(fetch, one, other):
    """Whether two READs GO TOGETHER."""
    told = arrows_of_pair(fetch, one, other)
    need_possible(told)
    return go_together(told, one, other)


def classes(fetch):
    """The tuple of the CLASSES."""
    told = arrows(fetch)
    need_possible(told)
    return classes_among(told, list(range(len(fetch[2]))))


def on_pair(fetch, one, other):
    """A PAPER on whether two READs GO TOGETHER."""
    told = arrows_of_pair(fetch, one, other)
    need_possible(told)
    if one == other:
        return ("ring", (one, one))
    there = way_between(told, one, other)
    back = way_between(told, other, one)
    if there is None or back is None:
        return ("apart", unlike_history(told, len(fetch[2]), one, other))
    return ("ring", there + back[1:])


def check_pair(fetch, one, other, paper):
    """The word of a PAPER of on_pair that holds; BadPaper of anything else."""
    told = arrows_of_pair(fetch, one, other)
    word = need_pair_form(fetch, paper)
    if word == "ring":
        holds = ties(told, one, other, paper[1])
    else:
        holds = follows(told, paper[1]) and paper[1][one] != paper[1][other]
    if not holds:
        raise BadPaper(word)
    need_possible(told)
    return word


def arrows_of_pair(fetch, one, other):
    """The ARROWs of a FETCH of which two READs are asked for; BadFetch, BadNumber."""
    told = arrows(fetch)
    need_number(fetch, one)
    need_number(fetch, other)
    return told


def need_pair_form(fetch, paper):
    """The word of what has the form of a PAPER of on_pair; BadPaper of anything else."""
    if not is_row(paper, 2, 2) or not is_word(paper[0], PAIR_PAPERS):
        raise BadPaper("form")
    if paper[0] == "ring" and has_way_form(fetch, paper[1]):
        return "ring"
    if paper[0] == "apart" and has_history_form(fetch, paper[1]):
        return "apart"
    raise BadPaper("form")


def leads(told, one, other):
    """Whether a WAY leads from one READ to another one, or itself."""
    return way_between(told, one, other) is not None


def go_together(told, one, other):
    """Whether WAYs lead from each of two READs to the other one."""
    return leads(told, one, other) and leads(told, other, one)


def classes_among(told, numbers):
    """The tuple of the CLASSES of ascending numbers of READs, each cut to these, by their first ones."""
    parts = []
    for one in numbers:
        part = tuple([other for other in numbers if go_together(told, one, other)])
        if part[0] == one:
            parts.append(part)
    return tuple(parts)


def unlike_history(told, many, one, other):
    """A HISTORY with as few versions as any in which two READs that do not GO TOGETHER are unlike.

    If they are alike in the LEAST HISTORY, one of them can be one version higher than there while the other
    one stays, and no HISTORY with fewer versions than the better of these two ways parts them.
    """
    least = least_history(told, many)
    found = [least, lifted(told, least, one), lifted(told, least, other)]
    return min([history for history in found if history[one] != history[other]], key=count_versions)


def lifted(told, history, read):
    """The least HISTORY not below this one in which a READ is one version higher."""
    return tuple(raised(told, [version + int(at == read) for at, version in enumerate(history)]))


def count_versions(history):
    """How many versions a HISTORY has."""
    return len(set(history))


def ties(told, one, other, numbers):
    """Whether numbers of READs show that two READs GO TOGETHER."""
    if one == other and numbers == (one, one):
        return True
    return is_ring(told, numbers) and one in numbers and other in numbers
