"""Texts: registries, wishes and cases shown as lines."""

from packsworn.rangetexts import show_range
from packsworn.versions import show_version


def show_features(word, features):
    """Return the words that tell features behind a word, "" if there are none."""
    return f" ; {word} {' '.join(features)}" if features else ""


def show_note(name, one):
    """Return the words of a name and a range."""
    return f"{name} ; {show_range(one)}"


def show_need(need):
    """Return the words of a need."""
    name, one, features, bare = need
    return show_note(name, one) + show_features("with", features) + (" ; bare" if bare else "")


def show_content(content):
    """Return a content as one line tells it."""
    return content.replace("\\", "\\\\").replace("\n", "\\n")


def feature_lines(told):
    """Return the lines of a feature of a pack."""
    feature, also, extras = told
    return [f"feature {feature}{show_features('also', also)}"] + [f"extra {show_need(need)}" for need in extras]


def pack_lines(pack):
    """Return the lines of a pack."""
    name, version, needs, peers, bars, features, defaults, files = pack
    lines = [f"pack {name} {show_version(version)}"]
    lines.extend([f"needs {show_need(need)}" for need in needs])
    lines.extend([f"peer {show_note(other, one)}" for other, one in peers])
    lines.extend([f"bar {show_note(other, one)}" for other, one in bars])
    for told in features:
        lines.extend(feature_lines(told))
    if defaults:
        lines.append(f"default {' '.join(defaults)}")
    lines.extend([f"file {path} : {show_content(content)}" for path, content in files])
    return lines


def registry_lines(registry):
    """Return the lines of a registry."""
    packs, withdrawn = registry
    lines = [line for pack in packs for line in pack_lines(pack)]
    return lines + [f"withdrawn {name} {show_version(version)}" for name, version in withdrawn]


def wish_lines(wish):
    """Return the lines of a wish."""
    return [f"wish {show_need(need)}" for need in wish]


def lock_line(name, held):
    """Return the line of a name of a lock."""
    version, features = held
    return f"lock {name} {show_version(version)}{show_features('with', features)}"


def show_registry(registry):
    """Return the text of a registry."""
    return "\n".join(registry_lines(registry))


def show_wish(wish):
    """Return the text of a wish."""
    return "\n".join(wish_lines(wish))


def show_case(case):
    """Return the text of a case."""
    registry, wish, lock, mode = case
    held = [lock_line(name, lock[name]) for name in sorted(lock)]
    return "\n".join(registry_lines(registry) + wish_lines(wish) + held + [f"mode {mode}"])
