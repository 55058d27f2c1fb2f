"""The log: the steps of an installing and the shelf of its lock, shown and read."""

from packsworn.forms import is_path
from packsworn.store import is_shelf


def log_text(log):
    """Return the text of a LOG."""
    steps, lock = log
    lines = [f"log {len(steps)}"] + [" ".join(step) for step in steps] + [f"lock {lock}"]
    return "\n".join(lines)


def is_step(words):
    """Tell whether words tell a step of a LOG."""
    if len(words) == 2:
        return words[0] == "drop" and is_path(words[1])
    return len(words) == 3 and words[0] == "put" and is_path(words[1]) and is_shelf(words[2])


def read_log(text):
    """Return the LOG that a text shows, None if it shows none."""
    lines = text.split("\n")
    rows = [tuple(line.split(" ")) for line in lines[1:]]
    if not rows or lines[0] != f"log {len(rows) - 1}":
        return None
    steps, last = tuple(rows[:-1]), rows[-1]
    if not all([is_step(step) for step in steps]):
        return None
    if len(last) != 2 or last[0] != "lock" or not is_shelf(last[1]):
        return None
    return steps, last[1]
