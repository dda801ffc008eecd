"""CLIENTs that read one PLACE piece by piece, go back and begin anew: which are SAFE, which END, and how late."""

from wholefetch.errors import BadClient, BadNumber, BadRun
from wholefetch.forms import are_between, ascends, is_between, is_row

MOST_STEPS = 8
MOST_PIECES = 400
MOST_CHANGES = 20


def need_client(thing):
    """The CLIENT itself; BadClient of anything else."""
    if not is_row(thing, 1, MOST_STEPS):
        raise BadClient(None)
    for at, item in enumerate(thing):
        if not is_step(at, item):
            raise BadClient(at)
    return thing


def is_safe(client):
    """Whether in each RUN the pieces that are handed over are of one version."""
    return first_loose(need_client(client)) is None


def torn_run(client):
    """A RUN with as few pieces as any in which pieces of unlike versions are handed over, or None."""
    loose = first_loose(need_client(client))
    if loose is None:
        return None
    return tuple([at == loose + 1 for at in range(len(client))])


def ends(client):
    """Whether no RUN without end has finitely many changes."""
    need_client(client)
    return None not in walks_of(client)


def most_reads(client, changes):
    """How many pieces are read at most in a RUN with so many changes, or None if there is no most."""
    need_client(client)
    if not is_between(changes, 0, MOST_CHANGES):
        raise BadNumber(changes)
    if changes == 0:
        return len(client)
    walks = walks_of(client)
    if None in walks:
        return None
    reads = [len(walk) for walk in walks]
    for turn in range(changes):
        reads = [most_along(walk, reads) for walk in walks]
    return reads[0]


def handed(client, run):
    """The tuple of the versions of the pieces that are handed over, or None if the RUN ends ahead of that."""
    need_client(client)
    if not is_run(run):
        raise BadRun(run)
    kept = []
    version = 0
    for changed in run:
        if len(kept) == len(client):
            raise BadRun(run)
        version += int(changed)
        against, back = client[len(kept)]
        if any([kept[at] != version for at in against]):
            kept = kept[:back]
        else:
            kept.append(version)
    return tuple(kept) if len(kept) == len(client) else None


def is_step(at, thing):
    """Whether it is a STEP that can stand at this number."""
    if not is_row(thing, 2, 2):
        return False
    against, back = thing
    return are_between(against, 0, at, at - 1) and ascends(against) and is_between(back, 0, at)


def is_run(thing):
    """Whether it is a RUN by form."""
    if not is_row(thing, 0, MOST_PIECES) or not all([isinstance(item, bool) for item in thing]):
        return False
    return len(thing) == 0 or thing[0] is False


def first_loose(client):
    """The number of the first STEP but the last one behind which a change goes unseen, or None.

    It is seen by a STEP behind that looks at this one or at one ahead.
    """
    for at in range(len(client) - 1):
        if not any([looks_ahead_of(step, at + 1) for step in client[at + 1:]]):
            return at
    return None


def looks_ahead_of(step, number):
    """Whether a STEP looks at a piece of a STEP ahead of this number."""
    against, back = step
    return len(against) > 0 and against[0] < number


def walks_of(client):
    """The list of what walk_from tells of each STEP.

    A change makes all kept pieces elder, so what comes behind it hangs on the next STEP alone. The begin is like
    a change ahead of STEP 0, as nothing is kept there.
    """
    return [walk_from(client, start) for start in range(len(client))]


def walk_from(client, start):
    """The list of the STEPs at which pieces are read behind a change, the last one, just ahead of a STEP.

    None if it has no end: if the same STEP comes with as many elder pieces again.
    """
    met = []
    state = (start, start)
    while state[0] < len(client):
        if state in met:
            return None
        met.append(state)
        state = after_read(client, state[0], state[1])
    return [step for step, elder in met]


def after_read(client, step, elder):
    """The next STEP and how many elder pieces are kept there, if a piece is read and nothing has changed."""
    if looks_ahead_of(client[step], elder):
        back = client[step][1]
        return (back, min(elder, back))
    return (step + 1, elder)


def most_along(walk, reads):
    """How many pieces are read at most on a walk that a change may cut off ahead of any STEP.

    reads tells how many are read at most from such a change on, one number for each STEP.
    """
    return max([len(walk)] + [at + reads[step] for at, step in enumerate(walk)])
