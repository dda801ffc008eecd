"""GAPs: by how much versions rise at least, the LEAST HISTORY, and whether a FETCH has any."""

from wholefetch.errors import BadHistory, BadPaper, BadQuestion
from wholefetch.fetches import arrows, need_number
from wholefetch.forms import are_between, is_row, is_word

TOP_VERSION = 99
LONGEST_WAY = 200
PAPERS = ("history", "ring")


def is_possible(fetch):
    """Whether a FETCH has a HISTORY."""
    return strict_ring(arrows(fetch)) is None


def judged(fetch):
    """A PAPER on whether a FETCH is IMPOSSIBLE."""
    told = arrows(fetch)
    ring = strict_ring(told)
    if ring is not None:
        return ("ring", ring)
    return ("history", least_history(told, len(fetch[2])))


def check_judged(fetch, paper):
    """The word of a PAPER of judged that holds; BadPaper of anything else."""
    told = arrows(fetch)
    word = need_judged_form(fetch, paper)
    if word == "history":
        holds = follows(told, paper[1])
    else:
        holds = is_ring(told, paper[1]) and has_strict(told, paper[1])
    if not holds:
        raise BadPaper(word)
    return word


def need_judged_form(fetch, paper):
    """The word of what has the form of a PAPER of judged; BadPaper of anything else."""
    if not is_row(paper, 2, 2) or not is_word(paper[0], PAPERS):
        raise BadPaper("form")
    if paper[0] == "history" and has_history_form(fetch, paper[1]):
        return "history"
    if paper[0] == "ring" and has_way_form(fetch, paper[1]):
        return "ring"
    raise BadPaper("form")


def gap(fetch, one, other):
    """The GAP from one READ to another one, or None."""
    told = arrows(fetch)
    need_number(fetch, one)
    need_number(fetch, other)
    need_possible(told)
    return gaps_from(told, len(fetch[2]), one)[other]


def level(fetch):
    """The LEAST HISTORY."""
    told = arrows(fetch)
    need_possible(told)
    return least_history(told, len(fetch[2]))


def few_versions(fetch):
    """The FEWEST VERSIONS."""
    return max(level(fetch)) + 1


def lets(fetch, history):
    """Whether a tuple is a HISTORY; BadHistory of what is none by form."""
    told = arrows(fetch)
    if not has_history_form(fetch, history):
        raise BadHistory(history)
    return follows(told, history)


def need_possible(told):
    """BadQuestion of the ARROWs of an IMPOSSIBLE FETCH."""
    if strict_ring(told) is not None:
        raise BadQuestion("this fetch has no history")


def has_history_form(fetch, thing):
    """Whether it is a HISTORY of the FETCH by form."""
    return are_between(thing, len(fetch[2]), len(fetch[2]), TOP_VERSION)


def has_way_form(fetch, thing):
    """Whether it is a tuple of numbers of READs that is not too long for a WAY or a RING."""
    return are_between(thing, 0, LONGEST_WAY, len(fetch[2]) - 1)


def follows(told, history):
    """Whether versions do not fall along the ARROWs, and rise along STRICT ones."""
    return all([history[one] + int(strict) <= history[other] for one, other, strict in told])


def least_history(told, many):
    """The LEAST HISTORY of so many READs with these ARROWs, which no RING makes impossible."""
    return tuple(raised(told, [0] * many))


def gaps_from(told, many, start):
    """The list of the GAPs from one READ to each of so many, which no RING makes impossible."""
    return raised(told, [0 if at == start else None for at in range(many)])


def raised(told, floors):
    """For each READ the least version not below its floor, if ARROWs are followed from all with a floor.

    A READ with the floor None has a version only if a WAY leads to it from one with another floor. A WAY
    that asks for a greatest version need not come to a READ twice, if no RING has a STRICT ARROW; so going
    along all ARROWs as many times as there are READs is enough.
    """
    versions = list(floors)
    for turn in range(len(floors)):
        ahead = list(versions)
        for one, other, strict in told:
            if versions[one] is not None:
                least = versions[one] + int(strict)
                if versions[other] is None or versions[other] < least:
                    versions[other] = least
        if versions == ahead:
            break
    return versions


def strict_ring(told):
    """A RING with a STRICT ARROW, or None if there is none."""
    for one, other, strict in told:
        back = way_between(told, other, one) if strict else None
        if back is not None:
            return (one, *back)
    return None


def way_between(told, start, goal):
    """A WAY from one READ to another one with as few numbers as any, or None."""
    came_from = {start: None}
    edge = [start]
    while edge and goal not in came_from:
        beyond = []
        for one, other, strict in told:
            if one in edge and other not in came_from:
                came_from[other] = one
                beyond.append(other)
        edge = beyond
    if goal not in came_from:
        return None
    way = [goal]
    while way[-1] != start:
        way.append(came_from[way[-1]])
    return tuple(way[::-1])


def is_way(told, numbers):
    """Whether numbers of READs are a WAY."""
    steps = [(one, other) for one, other, strict in told]
    return len(numbers) > 0 and all([step in steps for step in zip(numbers, numbers[1:])])


def is_ring(told, numbers):
    """Whether numbers of READs are a RING."""
    return len(numbers) > 1 and numbers[0] == numbers[-1] and is_way(told, numbers)


def has_strict(told, way):
    """Whether a WAY has a STRICT ARROW."""
    strict_steps = [(one, other) for one, other, strict in told if strict]
    return any([step in strict_steps for step in zip(way, way[1:])])
