"""What a cut of an installing leaves, and what mendings make of it."""

from packsworn.disk import after, cut
from packsworn.installer import LOG, NEW_LOG, install_deeds, mend_deeds


def install_cut(files, registry, plan, many, signs):
    """Return the FILES behind an installing that is cut."""
    return cut(files, install_deeds(files, registry, plan), many, signs)


def is_behind(files, registry, plan, many):
    """Tell whether the first deeds of an installing include the move of its log."""
    return ("move", NEW_LOG, LOG) in install_deeds(files, registry, plan)[:many]


def mended(files):
    """Return the FILES behind a mending."""
    return after(files, mend_deeds(files))


def mended_after(files, cuts):
    """Return the FILES behind mendings each of which is cut, and a last one that is not."""
    for many, signs in cuts:
        files = cut(files, mend_deeds(files), many, signs)
    return mended(files)
