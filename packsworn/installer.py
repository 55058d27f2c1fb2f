"""Installing a plan by a log, and mending what a cut has left."""

from packsworn.disk import after
from packsworn.journal import log_text, read_log
from packsworn.locks import show_lock
from packsworn.store import drop_if_there, keeping, kept
from packsworn.trees import TREE, steps_between, tree_of, tree_on

LOG = "log"
NEW_LOG = "log-new"
LOCK = "lock"


def shelves_in(log):
    """Return the list of the shelves that a LOG names."""
    steps, lock = log
    return [step[2] for step in steps if step[0] == "put"] + [lock]


def log_on(files):
    """Return the LOG that stands on a disk, None if there is none that can be read."""
    return read_log(files[LOG]) if LOG in files else None


def step_deed(files, step):
    """Return the DEED of a step of a log."""
    path = TREE + step[1]
    return ("drop", path) if step[0] == "drop" else ("put", path, files[step[2]])


def log_deeds(files, log):
    """Return the list of the DEEDS of a log whose shelves stand there."""
    steps, lock = log
    return [step_deed(files, step) for step in steps] + [("put", LOCK, files[lock]), ("drop", LOG)]


def logged_deeds(files, log):
    """Return the list of the DEEDS that write a log and then do it."""
    return [("put", NEW_LOG, log_text(log)), ("move", NEW_LOG, LOG)] + log_deeds(files, log)


def mend_deeds(files):
    """Return the list of the DEEDS of a mending."""
    log = log_on(files)
    if log is not None and all([shelf in files for shelf in shelves_in(log)]):
        deeds = log_deeds(files, log)
    else:
        deeds = drop_if_there(files, LOG)
    return deeds + drop_if_there(files, NEW_LOG)


def shelved_steps(steps, shelves):
    """Return the steps of a log, told with the shelves of their contents."""
    return tuple([step if step[0] == "drop" else ("put", step[1], shelves[step[2]]) for step in steps])


def install_deeds(files, registry, plan):
    """Return the list of the DEEDS of an installing."""
    mend = mend_deeds(files)
    calm = after(files, mend)
    steps = steps_between(tree_on(calm), tree_of(registry, plan))
    text = show_lock(plan)
    keep = keeping(calm, [step[2] for step in steps if step[0] == "put"] + [text])
    ready = after(calm, keep)
    shelves = kept(ready)
    return mend + keep + logged_deeds(ready, (shelved_steps(steps, shelves), shelves[text]))


def meant(files):
    """Return the tuple of the tree and the lock's text, or None, that stand behind a mending."""
    calm = after(files, mend_deeds(files))
    return tree_on(calm), calm.get(LOCK)


def is_calm(files):
    """Tell whether a mending has nothing to do."""
    return mend_deeds(files) == []
