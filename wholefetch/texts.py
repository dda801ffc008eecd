"""The written form of a FETCH, and where a string stops being one."""

from wholefetch.errors import BadText
from wholefetch.fetches import need_fetch

LETTERS = "abcdefghijklmnopqrstuvwxyz"
FIGURES = "0123456789"
MOST_LETTERS = 8
MOST_FIGURES = 10
# Which forms a line has; PLACE and NUMBER stand for any such word, each other word for itself.
FORMS = (
    "place PLACE",
    "place PLACE of PLACE",
    "size NUMBER",
    "read PLACE NUMBER NUMBER NUMBER NUMBER",
    "check NUMBER same NUMBER",
    "check NUMBER upto NUMBER",
    "check NUMBER newer NUMBER",
)
# Which lines can stand behind one of a kind; behind "" stands the first line.
BEHIND = {
    "": ("place",),
    "place": ("place", "size"),
    "size": ("read",),
    "read": ("read", "check"),
    "check": ("check",),
}
LAST_KINDS = ("read", "check")


def fetch_text(fetch):
    """The written form of a FETCH."""
    house, size, reads, checks = need_fetch(fetch)
    lines = [f"place {place}" if of is None else f"place {place} of {of}" for place, of in house]
    lines.append(f"size {size}")
    for place, begin, end, start, stop in reads:
        lines.append(f"read {place} {begin} {end} {start} {stop}")
    for one, word, other in checks:
        lines.append(f"check {one} {word} {other}")
    return "\n".join(lines)


def read_fetch(string):
    """The FETCH of a written form; BadText of what is none by its form, BadFetch of what is no FETCH."""
    if not isinstance(string, str):
        raise BadText(-1, -1)
    lines = string.split("\n")
    kind = ""
    for at, line in enumerate(lines):
        need_line(at, line, BEHIND[kind])
        kind = kind_of(line)
    if kind not in LAST_KINDS:
        raise BadText(len(lines), 0)
    return need_fetch(fetch_of_rows([line.split(" ") for line in lines]))


def kind_of(line):
    """The first word of a line, or of a form of lines."""
    return line.split(" ")[0]


def need_line(at, line, kinds):
    """BadText of a line, the number of which is told, that has no form of one of these kinds."""
    stops = [stop_of(line, form) for form in FORMS if kind_of(form) in kinds]
    if None not in stops:
        raise BadText(at, max(stops))


def stop_of(line, form):
    """The number of the first character with which a line leaves a form, or None if it has the form.

    That is the number of its characters if more have to come.
    """
    at = 0
    for word in form.split(" "):
        if at > 0:
            if line[at:at + 1] != " ":
                return at
            at += 1
        many, is_whole_word = reach_of_word(line[at:], word)
        at += many
        if not is_whole_word:
            return at
    return at if at < len(line) else None


def reach_of_word(rest, word):
    """How many characters of a rest go on by a word of a form, and whether they are a whole one."""
    if word == "PLACE":
        many = count_ahead(rest[:MOST_LETTERS], LETTERS)
        return (many, many > 0)
    if word == "NUMBER":
        # A number that begins with 0 has no other figure.
        many = 1 if rest[:1] == "0" else count_ahead(rest[:MOST_FIGURES], FIGURES)
        return (many, many > 0)
    many = max([end for end in range(len(word) + 1) if rest.startswith(word[:end])])
    return (many, many == len(word))


def count_ahead(text, signs):
    """How many of the first characters of a text are among these signs."""
    return len(text) - len(text.lstrip(signs))


def fetch_of_rows(rows):
    """What the words of the lines tell, each line having its form."""
    house = [(row[1], row[3] if len(row) == 4 else None) for row in rows if row[0] == "place"]
    sizes = [int(row[1]) for row in rows if row[0] == "size"]
    reads = [(row[1],) + tuple([int(word) for word in row[2:]]) for row in rows if row[0] == "read"]
    checks = [(int(row[1]), row[2], int(row[3])) for row in rows if row[0] == "check"]
    return (tuple(house), sizes[0], tuple(reads), tuple(checks))
