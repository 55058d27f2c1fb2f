"""Registries: what is in one, and registries that have a little more or less."""

from packsworn.errors import Doubled, NoPack
from packsworn.forms import paths_touch


def names_of(registry):
    """Return the LOT of the names of the packs."""
    return tuple(sorted({pack[0] for pack in registry[0]}))


def versions_of(registry, name):
    """Return the LOT of the versions of a name."""
    return tuple([pack[1] for pack in registry[0] if pack[0] == name])


def pack_of(registry, name, version):
    """Return the PACK with a name and a version, None if there is none."""
    for pack in registry[0]:
        if pack[:2] == (name, version):
            return pack
    return None


def feature_of(pack, feature):
    """Return the tuple of a feature of a pack, None if there is none."""
    for told in pack[5]:
        if told[0] == feature:
            return told
    return None


def is_withdrawn(registry, name, version):
    """Tell whether a name with a version is among those withdrawn."""
    return (name, version) in registry[1]


def paths_clash(one, other):
    """Tell whether two packs have paths that cannot stand beside each other."""
    return any([paths_touch(here[0], there[0]) for here in one[7] for there in other[7]])


def files_of(pack):
    """Return the dict from the paths of a pack to their contents."""
    return dict(pack[7])


def with_pack(registry, pack):
    """Return the registry with a pack more; raise Doubled(name, version) if it stands there."""
    packs, withdrawn = registry
    if pack_of(registry, pack[0], pack[1]) is not None:
        raise Doubled(pack[0], pack[1])
    return tuple(sorted(packs + (pack,), key=lambda row: (row[0], row[1]))), withdrawn


def check_pack(registry, name, version):
    """Raise NoPack(name, version) if there is no such pack."""
    if pack_of(registry, name, version) is None:
        raise NoPack(name, version)


def without_mark(withdrawn, mark):
    """Return what is withdrawn without one tuple (name, version)."""
    return tuple([other for other in withdrawn if other != mark])


def without_pack(registry, name, version):
    """Return the registry without a pack, which is not withdrawn there either."""
    check_pack(registry, name, version)
    packs, withdrawn = registry
    mark = (name, version)
    return tuple([pack for pack in packs if pack[:2] != mark]), without_mark(withdrawn, mark)


def withdrew(registry, name, version):
    """Return the registry in which a pack is withdrawn."""
    check_pack(registry, name, version)
    packs, withdrawn = registry
    mark = (name, version)
    return packs, tuple(sorted(without_mark(withdrawn, mark) + (mark,)))


def restored(registry, name, version):
    """Return the registry in which a pack is not withdrawn."""
    check_pack(registry, name, version)
    packs, withdrawn = registry
    return packs, without_mark(withdrawn, (name, version))
