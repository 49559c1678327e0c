"""Standings where certain names are needed, as codes: a bit for each name in a slot, then one for each stored name."""


def names_text(names):
    """The names with spaces between, or - for none."""
    return " ".join(names) if names else "-"


def bit_counts(many):
    """For each number of so many bits how many of them are set."""
    counts = [0]
    for _ in range(many):
        counts = counts + [count + 1 for count in counts]
    return counts


def sound_codes(names, fixed, slots):
    """The codes of all sound standings where these names, ascending, are needed."""
    many = len(names)
    counts = bit_counts(many)
    mask = (1 << many) - 1
    found = [0]
    for at, name in enumerate(names):
        held = 1 << at
        stored = held << many
        room = [code for code in found if counts[code & mask] < slots]
        nowhere = found if name in fixed else []
        found = nowhere + [code | stored for code in found] + [code | held for code in room]
        found = found + [code | held | stored for code in room]
    return found


def code_of(names, held, stored):
    """The code of the standing with these names in slots and these stored ones, as far as they are needed."""
    code = 0
    for at, name in enumerate(names):
        if name in held:
            code = code | 1 << at
        if name in stored:
            code = code | 1 << at + len(names)
    return code


def rows_of_names(names):
    """For each number of as many bits as there are names the names of its bits, ascending."""
    rows = [()]
    for name in names:
        rows = rows + [(*row, name) for row in rows]
    return rows


def texts_of(names, codes):
    """The texts of the standings with these codes."""
    texts = [names_text(row) for row in rows_of_names(names)]
    many = len(names)
    mask = (1 << many) - 1
    return [f"{texts[code & mask]} / {texts[code >> many]}" for code in codes]


def bits_elsewhere(names, others, made):
    """For each number of as many bits as there are names the bits that these names have among the others.

    The made name has none.
    """
    found = [0]
    for name in names:
        bit = 1 << others.index(name) if name in others and name != made else 0
        found = found + [bits | bit for bits in found]
    return found


def codes_behind(line, codes, names, later, slots):
    """For each code the one behind the line, of the names that are needed later, or None if it cannot be done."""
    many = len(names)
    made = line.makes
    counts = bit_counts(many)
    used = code_of(names, line.uses, ())
    old = code_of(names, (made,), ())
    new = code_of(later, (made,), ())
    bits = bits_elsewhere(names, later, made)
    shift = len(later)
    to_held = [None] * len(bits)
    for held, there in enumerate(bits):
        # A made value wants a slot, if its name has none.
        if held & used == used and (made is None or held & old or counts[held] < slots):
            to_held[held] = there | new
    mask = (1 << many) - 1
    return [None if to_held[code & mask] is None else to_held[code & mask] | bits[code >> many] << shift
            for code in codes]
