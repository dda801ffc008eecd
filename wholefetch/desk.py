"""A desk: one FETCH that is asked and changed by lines of words."""

from wholefetch.errors import BadQuestion, FetchError
from wholefetch.fetches import with_check, without_check
from wholefetch.further import how_many
from wholefetch.gaps import few_versions, gap, is_possible
from wholefetch.kept import missing, most_kept
from wholefetch.likeness import needless
from wholefetch.texts import FIGURES, read_fetch
from wholefetch.together import classes, together


def tell_possible(fetch):
    """The answer to "possible"."""
    return yes_or_no(is_possible(fetch))


def tell_versions(fetch):
    """The answer to "versions"."""
    return str(few_versions(fetch))


def tell_classes(fetch):
    """The answer to "classes"."""
    return "; ".join([row_of(part) for part in classes(fetch)])


def tell_kept(fetch):
    """The answer to "kept"."""
    return str(most_kept(fetch))


def tell_missing(fetch):
    """The answer to "missing"."""
    return row_or_none([f"{start}-{stop}" for start, stop in missing(fetch)])


def tell_needless(fetch):
    """The answer to "needless"."""
    return row_or_none(needless(fetch))


def tell_gap(fetch, one, other):
    """The answer to "gap"."""
    told = gap(fetch, one, other)
    return "none" if told is None else str(told)


def tell_together(fetch, one, other):
    """The answer to "together"."""
    return yes_or_no(together(fetch, one, other))


def tell_further(fetch, glue):
    """The answer to "further"."""
    told = how_many(fetch, glue)
    return "never" if told is None else str(told)


def yes_or_no(truth):
    """A truth, written."""
    return "yes" if truth else "no"


def row_of(things):
    """Things, written with a space between two."""
    return " ".join([str(thing) for thing in things])


def row_or_none(things):
    """Things, written with a space between two, or "none" of none."""
    return row_of(things) if len(things) > 0 else "none"


# The questions that stand alone, and those of two READs.
ALONE = {
    "possible": tell_possible,
    "versions": tell_versions,
    "classes": tell_classes,
    "kept": tell_kept,
    "missing": tell_missing,
    "needless": tell_needless,
}
OF_TWO = {
    "gap": tell_gap,
    "together": tell_together,
}


class Desk:
    """A desk with a FETCH; fetches has this one last, behind those ahead of each change that can be undone."""

    def __init__(self, text):
        self.fetches = [read_fetch(text)]

    @property
    def fetch(self):
        """The FETCH as it is now."""
        return self.fetches[-1]

    def say(self, line):
        """The answer to a line."""
        if not isinstance(line, str):
            return "no"
        try:
            return self.answer(line.split(" "))
        except FetchError:
            return "no"

    def answer(self, words):
        """The answer to the words of a line; BadQuestion of what is no line."""
        if words == ["undo"]:
            return self.take_back()
        if words[0] == "check" and len(words) == 4:
            return self.change(with_check(self.fetch, (number_of(words[1]), words[2], number_of(words[3]))))
        if words[0] == "drop" and len(words) == 2:
            return self.change(without_check(self.fetch, number_of(words[1])))
        return answer_to(self.fetch, words[0], [number_of(word) for word in words[1:]])

    def change(self, fetch):
        """Puts a FETCH in the place of the one that is there."""
        self.fetches.append(fetch)
        return "done"

    def take_back(self):
        """Takes the last change back."""
        if len(self.fetches) == 1:
            return "nothing"
        self.fetches.pop()
        return "done"


def number_of(word):
    """The number that is written so; BadQuestion of what is no number of a READ or a CHECK by form."""
    if len(word) not in (1, 2) or word.strip(FIGURES) != "" or (len(word) == 2 and word[0] == "0"):
        raise BadQuestion("this is no number")
    return int(word)


def answer_to(fetch, word, numbers):
    """The answer to a question that changes nothing; BadQuestion of what is none."""
    if word in ALONE and len(numbers) == 0:
        tell = ALONE[word]
        return tell(fetch)
    if word in OF_TWO and len(numbers) == 2:
        tell = OF_TWO[word]
        return tell(fetch, numbers[0], numbers[1])
    if word == "further":
        return tell_further(fetch, tuple(numbers))
    raise BadQuestion("this is no line")
