"""Disks: what stands on one behind deeds, and what a cut of power leaves."""

from packsworn.errors import PowerCut, Wrong
from packsworn.forms import is_path


def is_files(thing):
    """Tell whether a value is FILES, a dict from PATHS to strings."""
    if not isinstance(thing, dict) or not all([is_path(path) for path in thing]):
        return False
    return all([isinstance(content, str) for content in list(thing.values())])


def in_order(files):
    """Return a new dict with what stands on a disk, its paths ascending."""
    return {path: files[path] for path in sorted(files)}


def do_deed(files, deed):
    """Do one deed on a dict that the caller owns."""
    path = deed[1]
    if deed[0] == "put":
        files[path] = deed[2]
    elif path in files:
        content = files[path]
        del files[path]
        # A move to the path itself puts back what was just taken.
        if deed[0] == "move":
            files[deed[2]] = content


def after(files, deeds):
    """Return the FILES behind some deeds, done one by one."""
    found = dict(files)
    for deed in deeds:
        do_deed(found, deed)
    return in_order(found)


def cut(files, deeds, many, signs):
    """Return the FILES if the first deeds are done and power goes, amid the next one if it is a put."""
    found = after(files, deeds[:many])
    if signs is None or many >= len(deeds) or deeds[many][0] != "put":
        return found
    _, path, content = deeds[many]
    found[path] = content[:signs]
    return in_order(found)


def begun_puts(files, deed):
    """Return the list of the FILES behind all cuts amid a deed."""
    if deed[0] != "put":
        return []
    _, path, content = deed
    base = in_order({**files, path: ""})
    return [{**base, path: content[:signs]} for signs in range(len(content))]


def all_cuts(files, deeds):
    """Return the list of the FILES behind all cuts of some deeds."""
    standing = dict(files)
    found = []
    for deed in deeds:
        found.append(in_order(standing))
        found.extend(begun_puts(standing, deed))
        do_deed(standing, deed)
    return found + [in_order(standing)]


class Disk:
    """A disk with what stands on it, with power or without, and perhaps with a fuse."""

    def __init__(self, files):
        if not is_files(files):
            raise Wrong(0)
        self.standing = in_order(files)
        self.powered = True
        # How many further deeds are done, and how much of the one behind them; None without a fuse.
        self.fused = None

    def do(self, deeds):
        """Do some deeds one by one; raise PowerCut() without power, or when the fuse lets no more be done."""
        if not self.powered:
            raise PowerCut()
        if self.fused is None:
            self.standing = after(self.standing, deeds)
            return
        many, signs = self.fused
        if len(deeds) <= many:
            self.standing = after(self.standing, deeds)
            self.fused = (many - len(deeds), signs)
            return
        self.standing = cut(self.standing, deeds, many, signs)
        self.powered = False
        self.fused = None
        raise PowerCut()

    def fuse(self, many, signs):
        """Let so many further deeds be done, and then power go."""
        if self.powered:
            self.fused = (many, signs)

    def power(self):
        """Bring power back, and take a fuse away."""
        self.powered = True
        self.fused = None

    def has_power(self):
        """Tell whether there is power."""
        return self.powered

    def files(self):
        """Return the FILES that stand on the disk."""
        return dict(self.standing)

    def twin(self):
        """Return an independent Disk in the same state."""
        other = Disk(self.standing)
        other.powered = self.powered
        other.fused = self.fused
        return other

    def __eq__(self, other):
        """Tell whether another thing is a Disk in the same state."""
        return (isinstance(other, Disk) and self.standing == other.standing and self.powered == other.powered
                and self.fused == other.fused)
