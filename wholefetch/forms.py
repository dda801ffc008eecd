"""Forms that many arguments share, asked of values of any kind.

Each question asks for the kind of a value first: nothing else is done with values of other kinds.
"""


def is_between(thing, least, most):
    """Whether it is an integer within these bounds; True and False are none."""
    return isinstance(thing, int) and not isinstance(thing, bool) and least <= thing <= most


def is_name(thing):
    """Whether it is a string of 1 to 8 signs a to z."""
    if not isinstance(thing, str) or not 1 <= len(thing) <= 8:
        return False
    return all(["a" <= sign <= "z" for sign in thing])


def is_word(thing, words):
    """Whether it is a string, and one of these words."""
    return isinstance(thing, str) and thing in words


def is_row(thing, fewest, most):
    """Whether it is a tuple with so many items."""
    return isinstance(thing, tuple) and fewest <= len(thing) <= most


def are_between(thing, fewest, most, top):
    """Whether it is a tuple with so many items, all of them integers from 0 to top."""
    return is_row(thing, fewest, most) and all([is_between(item, 0, top) for item in thing])


def ascends(numbers):
    """Whether each number of a row is less than the next one."""
    return all([low < high for low, high in zip(numbers, numbers[1:])])
