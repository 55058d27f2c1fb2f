"""Collecting: what no generation that is kept needs goes."""

from packsworn.disk import after
from packsworn.generations import NEW_GENERATION, generation_of, generations, manifest_at, shelves_named
from packsworn.installer import log_on, mend_deeds, shelves_in
from packsworn.store import NEW_SHELF, drop_if_there, shelves_on


def named_shelves(files, numbers):
    """Return the dict of the shelves that the MANIFESTS of some GENERATIONS name."""
    manifests = [manifest_at(files, number) for number in numbers]
    return {shelf: True for manifest in manifests if manifest is not None for shelf in shelves_named(manifest)}


def collect_deeds(files, numbers):
    """Return the list of the DEEDS by which just some GENERATIONS are kept, and what they need."""
    mend = mend_deeds(files)
    calm = after(files, mend)
    others = [("drop", generation_of(number)) for number in generations(calm) if number not in numbers]
    named = named_shelves(calm, numbers)
    shelves = [("drop", shelf) for shelf in shelves_on(calm) if shelf not in named]
    return mend + others + drop_if_there(calm, NEW_GENERATION) + shelves + drop_if_there(calm, NEW_SHELF)


def spare_shelves(files):
    """Return the list of the shelves that neither a MANIFEST nor the log names, ascending by their integers."""
    named = named_shelves(files, generations(files))
    log = log_on(files)
    logged = [] if log is None else shelves_in(log)
    return [shelf for shelf in shelves_on(files) if shelf not in named and shelf not in logged]
