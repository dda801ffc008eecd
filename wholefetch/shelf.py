"""SHELVES, which keep FETCHes by NAMES; what was done can be undone, deed by deed."""

from wholefetch.errors import BadQuestion, Missing, Parts
from wholefetch.fetches import need_fetch, with_check, without_check
from wholefetch.forms import is_name
from wholefetch.likeness import lean, parted


class Trial:
    """What a with statement over a shelf is made of: behind its block all is as it was ahead of it."""

    def __init__(self, shelf):
        self.shelf = shelf
        self.kept = {}
        self.deeds = []

    def __enter__(self):
        self.kept = dict(self.shelf.kept)
        self.deeds = list(self.shelf.deeds)
        return self.shelf

    def __exit__(self, kind, value, trace):
        self.shelf.kept = self.kept
        self.shelf.deeds = self.deeds


class Shelf:
    """FETCHes by their NAMES.

    kept has the FETCH of each NAME; deeds has, for each change that can be undone, the NAME and the FETCH that
    it had ahead of the change, or None.
    """

    def __init__(self):
        self.kept = {}
        self.deeds = []

    def __getitem__(self, name):
        """The FETCH that is kept by a NAME."""
        if name not in self:
            raise Missing(name)
        return self.kept[name]

    def __setitem__(self, name, fetch):
        """Keeps a FETCH by a NAME."""
        if not is_name(name):
            raise BadQuestion("this is no name")
        self.put(name, need_fetch(fetch))

    def __contains__(self, name):
        """Whether a FETCH is kept by this NAME."""
        return is_name(name) and name in self.kept

    # Without this, Python would go through a shelf by asking for its items 0, 1 and so on.
    def __iter__(self):
        raise TypeError("a shelf is not gone through")

    def __len__(self):
        """How many FETCHes are kept."""
        return len(self.kept)

    def __eq__(self, other):
        """Whether it is a shelf with the same FETCHes of the same NAMES."""
        return isinstance(other, Shelf) and self.kept == other.kept

    def names(self):
        """The ascending tuple of the NAMES."""
        return tuple(sorted(self.kept))

    def forget(self, name):
        """Keeps nothing by this NAME any more."""
        self.deeds.append((name, self[name]))
        del self.kept[name]

    def replace(self, name, fetch):
        """Puts an ALIKE FETCH in the place of the one that is kept by a NAME."""
        history = parted(self[name], fetch)
        if history is not None:
            raise Parts(history)
        self.put(name, fetch)

    def add(self, name, check):
        """Puts a CHECK behind the others."""
        self.put(name, with_check(self[name], check))

    def drop(self, name, number):
        """Takes a CHECK out."""
        self.put(name, without_check(self[name], number))

    def make_lean(self, name):
        """Puts the LEAN form in the place of a FETCH; how many CHECKs fewer that has."""
        full = self[name]
        thin = lean(full)
        self.put(name, thin)
        return len(full[3]) - len(thin[3])

    def undo(self):
        """Takes the last change back; whether there was one."""
        if len(self.deeds) == 0:
            return False
        name, fetch = self.deeds.pop()
        if fetch is None:
            del self.kept[name]
        else:
            self.kept[name] = fetch
        return True

    def trial(self):
        """What a with statement is made over, behind the block of which all is as it was ahead of it."""
        return Trial(self)

    def put(self, name, fetch):
        """Keeps a FETCH by a NAME, both of them approved, and what was there for undo."""
        self.deeds.append((name, self.kept.get(name)))
        self.kept[name] = fetch


def under(manager, deed):
    """What a deed returns, called in a with statement with what a manager gives."""
    with manager as one:
        return deed(one)
