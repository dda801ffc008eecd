"""FURTHER CHECKs: how few of them make sure that what is glued is of one version, and why fewer do not."""

from wholefetch.errors import BadGlue, BadPaper
from wholefetch.fetches import MOST_CHECKS, arrows, arrows_of, is_check
from wholefetch.forms import are_between, ascends, is_row, is_word
from wholefetch.gaps import has_strict, has_way_form, is_way, need_possible, strict_ring, way_between
from wholefetch.together import classes_among, leads

FURTHER_WORDS = ("same", "upto")
REASONS = ("one", "alone", "first", "last")


def is_sure(fetch, glue):
    """Whether all READs of a GLUE GO TOGETHER."""
    told = arrows_of_glue(fetch, glue)
    need_possible(told)
    return all_together(told, glue)


def further(fetch, glue):
    """A PAPER on how few FURTHER CHECKs MAKE a GLUE SURE, or on why none do."""
    told = arrows_of_glue(fetch, glue)
    need_possible(told)
    way = strict_way(told, glue)
    if way is not None:
        return ("never", way)
    parts = classes_among(told, glue)
    if len(parts) == 1:
        return ("checks", (), "one", ())
    if not any_leads(told, parts):
        return ("checks", checks_in_a_row(parts), "alone", heads(parts))
    firsts = first_ones(told, parts)
    lasts = last_ones(told, parts)
    checks = checks_around(told, firsts, lasts)
    if len(firsts) >= len(lasts):
        return ("checks", checks, "first", heads(firsts))
    return ("checks", checks, "last", heads(lasts))


def how_many(fetch, glue):
    """How many FURTHER CHECKs are wanted, or None."""
    paper = further(fetch, glue)
    return len(paper[1]) if paper[0] == "checks" else None


def with_checks(fetch, glue, checks):
    """Whether FURTHER CHECKs MAKE a GLUE SURE; BadPaper of what is no tuple of such."""
    told = arrows_of_glue(fetch, glue)
    if not are_further(fetch, glue, checks):
        raise BadPaper("checks")
    need_possible(told)
    return make_sure(fetch, glue, checks)


def check_further(fetch, glue, paper):
    """The word of a PAPER of further that holds; BadPaper of anything else."""
    told = arrows_of_glue(fetch, glue)
    word = need_further_form(fetch, glue, paper)
    if word == "checks":
        holds = make_sure(fetch, glue, paper[1]) and is_reason(told, glue, len(paper[1]), paper[2], paper[3])
    else:
        holds = is_strict_way(told, glue, paper[1])
    if not holds:
        raise BadPaper(word)
    need_possible(told)
    return word


def need_glue(fetch, thing):
    """The GLUE itself; BadGlue of anything else."""
    many = len(fetch[2])
    if not are_between(thing, 1, many, many - 1) or not ascends(thing):
        raise BadGlue(thing)
    return thing


def arrows_of_glue(fetch, glue):
    """The ARROWs of a FETCH of which a GLUE is asked for; BadFetch, BadGlue."""
    told = arrows(fetch)
    need_glue(fetch, glue)
    return told


def are_further(fetch, glue, thing):
    """Whether it is a tuple of FURTHER CHECKs that is not too long."""
    return is_row(thing, 0, MOST_CHECKS) and all([is_further(fetch, glue, item) for item in thing])


def is_further(fetch, glue, thing):
    """Whether it is a FURTHER CHECK."""
    if not is_check(len(fetch[2]), thing):
        return False
    one, word, other = thing
    return word in FURTHER_WORDS and one in glue and other in glue


def need_further_form(fetch, glue, paper):
    """The word of what has the form of a PAPER of further; BadPaper of anything else."""
    if is_row(paper, 2, 2) and is_word(paper[0], ("never",)) and has_way_form(fetch, paper[1]):
        return "never"
    if is_row(paper, 4, 4) and is_word(paper[0], ("checks",)) and are_further(fetch, glue, paper[1]):
        if is_word(paper[2], REASONS) and has_way_form(fetch, paper[3]):
            return "checks"
    raise BadPaper("form")


def all_together(told, numbers):
    """Whether all these READs GO TOGETHER."""
    return len(classes_among(told, numbers)) == 1


def make_sure(fetch, glue, checks):
    """Whether CHECKs, put behind the others, MAKE a GLUE SURE."""
    told = arrows_of(fetch[0], fetch[2], fetch[3] + checks)
    return strict_ring(told) is None and all_together(told, glue)


def strict_way(told, glue):
    """A WAY with a STRICT ARROW that begins and ends with READs of the GLUE, or None."""
    for one, other, strict in told:
        if strict:
            into = [way_between(told, start, one) for start in glue if leads(told, start, one)]
            out = [way_between(told, other, goal) for goal in glue if leads(told, other, goal)]
            if len(into) > 0 and len(out) > 0:
                return into[0] + out[0]
    return None


def is_strict_way(told, glue, numbers):
    """Whether numbers of READs are a WAY with a STRICT ARROW that begins and ends with READs of the GLUE."""
    return is_way(told, numbers) and has_strict(told, numbers) and numbers[0] in glue and numbers[-1] in glue


def part_leads(told, part, other):
    """Whether a class leads to another one, or itself."""
    return leads(told, part[0], other[0])


def any_leads(told, parts):
    """Whether a class leads to another one."""
    return any([part != other and part_leads(told, part, other) for part in parts for other in parts])


def first_ones(told, parts):
    """The list of the FIRST classes."""
    return [part for part in parts if not any([part != other and part_leads(told, other, part) for other in parts])]


def last_ones(told, parts):
    """The list of the LAST classes."""
    return [part for part in parts if not any([part != other and part_leads(told, part, other) for other in parts])]


def heads(parts):
    """The tuple of the first READs of classes."""
    return tuple([part[0] for part in parts])


def checks_in_a_row(parts):
    """The FURTHER CHECKs that tie classes none of which leads to another one."""
    return tuple([(part[0], "same", after[0]) for part, after in zip(parts, parts[1:])])


def checks_around(told, firsts, lasts):
    """The FURTHER CHECKs that tie all classes, if some class leads to another one.

    Each stop of the ring is entered by a FIRST class and left by a LAST one. Of the classes without a match
    two are tied at a time: such a FIRST class leads to a LAST one on the ring, and the other way about.
    """
    stops = matched(told, firsts, lasts)
    entered = [stop[0] for stop in stops]
    left = [stop[1] for stop in stops]
    more_firsts = [part for part in firsts if part not in entered]
    more_lasts = [part for part in lasts if part not in left]
    both = min(len(more_firsts), len(more_lasts))
    steps = list(zip(more_lasts[:both], more_firsts[:both]))
    stops = stops + [(part, part) for part in more_firsts[both:] + more_lasts[both:]]
    for stop, after in zip(stops, stops[1:] + stops[:1]):
        steps.append((stop[1], after[0]))
    return tuple([(part[0], "upto", after[0]) for part, after in steps])


def matched(told, firsts, lasts):
    """The list of pairs of a FIRST class and a LAST one to which it leads, until there are no more.

    A class that is both is matched with itself.
    """
    pairs = []
    free = list(lasts)
    for part in firsts:
        goals = [goal for goal in free if part_leads(told, part, goal)]
        if len(goals) > 0:
            pairs.append((part, goals[0]))
            free = [goal for goal in free if goal != goals[0]]
    return pairs


def is_reason(told, glue, many, word, numbers):
    """Whether a word and READs tell why fewer than so many FURTHER CHECKs do not MAKE a GLUE SURE."""
    parts = classes_among(told, glue)
    if word == "one":
        return len(parts) == 1 and many == 0 and numbers == ()
    if word == "alone":
        return not any_leads(told, parts) and len(numbers) == many + 1 and are_of_unlike(parts, numbers)
    ends = first_ones(told, parts) if word == "first" else last_ones(told, parts)
    return any_leads(told, parts) and len(numbers) == many and are_of_unlike(ends, numbers)


def are_of_unlike(parts, numbers):
    """Whether numbers of READs ascend, each of another one of these classes."""
    counts = [len([at for at in numbers if at in part]) for part in parts]
    return ascends(numbers) and sum(counts) == len(numbers) and max(counts) <= 1
