"""Standings: pairs of the names that lie in slots and of those that lie in the store, ascending tuples."""


def names_text(names):
    """The names with spaces between, or - for none."""
    return " ".join(names) if names else "-"


def standing_text(standing):
    """The text of a standing."""
    held, stored = standing
    return f"{names_text(held)} / {names_text(stored)}"


def sound_standings(names, fixed, slots):
    """All sound standings where these names, ascending, are needed."""
    found = [((), ())]
    for name in names:
        longer = []
        for held, stored in found:
            if name in fixed:
                longer.append((held, stored))
            longer.append((held, (*stored, name)))
            if len(held) < slots:
                longer.append(((*held, name), stored))
                longer.append(((*held, name), (*stored, name)))
        found = longer
    return found


def with_name(names, name):
    """The names and one more, ascending."""
    return tuple(sorted([*names, name]))


def without_name(names, name):
    """The names but this one."""
    return tuple([other for other in names if other != name])


def of_names(standing, names):
    """What a standing has of these names."""
    held, stored = standing
    return tuple([name for name in held if name in names]), tuple([name for name in stored if name in names])


def moves_at(standing, names, fixed, slots):
    """The moves of these names that can be done: what is done, the name, and the standing behind the move."""
    held, stored = standing
    found = []
    for name in names:
        if name in held:
            found.append(("forget", name, (without_name(held, name), stored)))
            if name not in stored:
                found.append(("store", name, (held, with_name(stored, name))))
        elif len(held) < slots:
            if name in stored:
                found.append(("load", name, (with_name(held, name), stored)))
            if name in fixed:
                found.append(("again", name, (with_name(held, name), stored)))
    return found


def behind_line(line, standing, slots):
    """The standing behind a line, or None if the line cannot be done."""
    held, stored = standing
    if not all([name in held for name in line.uses]):
        return None
    made = line.makes
    if made is None:
        return standing
    if made in held:
        return held, without_name(stored, made)
    if len(held) == slots:
        return None
    return with_name(held, made), without_name(stored, made)
