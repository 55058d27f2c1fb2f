"""A store by contents: what stands on its shelves, and the deeds that bring contents in or take them out."""

from packsworn.versions import FIGURES

SHELF = "store/c"
NEW_SHELF = "store/new"
# A NAME has twenty signs at most, and one of them is the letter ahead of the figures.
MOST_FIGURES = 19


def number_behind(head, path):
    """Return the integer that stands in a path behind its head, just as Python shows it, None if there is none."""
    figures = path.removeprefix(head)
    if not path.startswith(head) or not 1 <= len(figures) <= MOST_FIGURES:
        return None
    if not all([sign in FIGURES for sign in figures]) or figures != "0" and figures[0] == "0":
        return None
    return int(figures)


def numbers_behind(head, files):
    """Return the ascending list of the integers that stand behind a head in the paths of FILES."""
    found = [number_behind(head, path) for path in files]
    return sorted([number for number in found if number is not None])


def is_shelf(path):
    """Tell whether a path is that of a SHELF."""
    return number_behind(SHELF, path) is not None


def shelf_of(number):
    """Return the path of the SHELF with a number."""
    return f"{SHELF}{number}"


def shelves_on(files):
    """Return the list of the paths of the SHELVES of FILES, ascending by their integers."""
    return [shelf_of(number) for number in numbers_behind(SHELF, files)]


def kept(files):
    """Return the dict from the contents on shelves to the paths of the shelves, the least one of each."""
    found = {}
    for shelf in shelves_on(files):
        found.setdefault(files[shelf], shelf)
    return {content: found[content] for content in sorted(found)}


def keeping(files, contents):
    """Return the list of the DEEDS that bring contents into the store, each one but once."""
    held = {one: True for one in kept(files)}
    deeds = []
    number = 0
    for content in contents:
        if content not in held:
            while shelf_of(number) in files:
                number += 1
            deeds.extend([("put", NEW_SHELF, content), ("move", NEW_SHELF, shelf_of(number))])
            held[content] = True
            number += 1
    return deeds


def drop_if_there(files, path):
    """Return the list of the drop of a path, [] if nothing stands there."""
    return [("drop", path)] if path in files else []


def unshelving(files, contents):
    """Return the list of the drops of all shelves with other contents than these, and of what is not yet shelved."""
    held = {one: True for one in contents}
    drops = [("drop", shelf) for shelf in shelves_on(files) if files[shelf] not in held]
    return drops + drop_if_there(files, NEW_SHELF)
