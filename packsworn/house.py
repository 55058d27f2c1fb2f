"""A house: a registry, a wish, a tree with its lock, a store and generations, all of them on one disk."""

from packsworn.collecting import collect_deeds
from packsworn.disk import Disk, after
from packsworn.errors import NoText, Wrong
from packsworn.generations import record_deeds, rollback_deeds, sound_ones, tree_at
from packsworn.installer import install_deeds, meant, mend_deeds
from packsworn.locks import read_lock
from packsworn.lookover import look_over, repair_deeds
from packsworn.overlays import laid_over
from packsworn.reader import read_registry, read_wish
from packsworn.registry import restored, withdrew
from packsworn.solver import answer
from packsworn.store import drop_if_there
from packsworn.texts import show_registry, show_wish

REGISTRY = "registry"
NEW_REGISTRY = "registry-new"
WISH = "wish"
NEW_WISH = "wish-new"


def registry_on(files):
    """Return the registry of which the text stands on a disk, the empty one if there is none."""
    try:
        return read_registry(files.get(REGISTRY, ""))
    except NoText:
        return (), ()


def wish_on(files):
    """Return the wish of which the text stands on a disk, the empty one if there is none."""
    try:
        return read_wish(files.get(WISH, ""))
    except NoText:
        return ()


def starting(files):
    """Return the list of the DEEDS of the STARTING of FILES."""
    return mend_deeds(files) + drop_if_there(files, NEW_REGISTRY) + drop_if_there(files, NEW_WISH)


def putting_registry(registry):
    """Return the list of the DEEDS that put a registry."""
    return [("put", NEW_REGISTRY, show_registry(registry)), ("move", NEW_REGISTRY, REGISTRY)]


def putting_wish(wish):
    """Return the list of the DEEDS that put a wish."""
    return [("put", NEW_WISH, show_wish(wish)), ("move", NEW_WISH, WISH)]


class House:
    """What stands on a disk, led by commands, each of which starts by mending what a cut has left."""

    def __init__(self, files):
        self.disk = Disk(files)

    def fuse(self, many, signs):
        """Let so many further deeds of the disk be done, and then power go."""
        self.disk.fuse(many, signs)

    def power(self):
        """Bring power back, and take a fuse away."""
        self.disk.power()

    def has_power(self):
        """Tell whether there is power."""
        return self.disk.has_power()

    def files(self):
        """Return the FILES that stand on the disk."""
        return self.disk.files()

    def check_power(self):
        """Raise PowerCut() if there is no power."""
        # Even a disk that is to do nothing needs power for it.
        self.disk.do([])

    def started(self):
        """Return the FILES behind a starting."""
        files = self.disk.files()
        return after(files, starting(files))

    def command(self, deeds):
        """Do the deeds of a starting, and then those of a command."""
        self.disk.do(starting(self.disk.files()) + deeds)

    def start(self):
        """Do a starting alone."""
        self.command([])

    def publish(self, text):
        """Lay the registry that a text shows over the one that is there."""
        if not isinstance(text, str):
            raise Wrong(0)
        self.check_power()
        self.command(putting_registry(laid_over(self.registry(), read_registry(text))))

    def withdraw(self, name, version):
        """Withdraw a pack of the registry."""
        self.check_power()
        self.command(putting_registry(withdrew(self.registry(), name, version)))

    def restore(self, name, version):
        """Restore a pack of the registry that may be withdrawn."""
        self.check_power()
        self.command(putting_registry(restored(self.registry(), name, version)))

    def wish_for(self, text):
        """Put the wish that a text shows."""
        if not isinstance(text, str):
            raise Wrong(0)
        self.check_power()
        self.command(putting_wish(read_wish(text)))

    def install(self, mode):
        """Return the answer of the case; if there is a plan, install it, and record it as a generation."""
        self.check_power()
        found = answer(self.case_of(mode))
        deeds = []
        if found[0] == "plan":
            files = self.started()
            deeds = install_deeds(files, self.registry(), found[1])
            deeds = deeds + record_deeds(after(files, deeds))
        self.command(deeds)
        return found

    def back(self, number):
        """Lead the tree and the lock back to a generation."""
        self.check_power()
        self.command(rollback_deeds(self.started(), number))

    def collect(self, numbers):
        """Keep just some generations, and what they need."""
        self.check_power()
        self.command(collect_deeds(self.started(), numbers))

    def repair(self):
        """Repair the generations that have findings."""
        self.check_power()
        self.command(repair_deeds(self.started(), self.registry()))

    def registry(self):
        """Return the registry."""
        return registry_on(self.disk.files())

    def wish(self):
        """Return the wish."""
        return wish_on(self.disk.files())

    def tree(self):
        """Return the tree that stands behind a starting."""
        return meant(self.disk.files())[0]

    def lock_text(self):
        """Return the text of the lock that stands behind a starting, None if there is none."""
        return meant(self.disk.files())[1]

    def lock(self):
        """Return the lock that stands behind a starting, {} if there is none that can be read."""
        text = self.lock_text()
        held = None if text is None else read_lock(text)
        return {} if held is None else held

    def case_of(self, mode):
        """Return the CASE of what is there, in a mode."""
        return self.registry(), self.wish(), self.lock(), mode

    def numbers(self):
        """Return the list of the numbers of the SOUND generations."""
        return sound_ones(self.disk.files())

    def tree_of_number(self, number):
        """Return the tuple of the tree and the lock's text of a SOUND generation, None of any other number."""
        return tree_at(self.disk.files(), number)

    def findings(self):
        """Return the list of the FINDINGS of the generations."""
        return look_over(self.disk.files(), self.registry())

    def twin(self):
        """Return an independent House in the same state."""
        other = House({})
        other.disk = self.disk.twin()
        return other

    def __eq__(self, other):
        """Tell whether another thing is a House whose Disk is in the same state."""
        return isinstance(other, House) and self.disk == other.disk
