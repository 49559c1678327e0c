"""Looks at tables of entries: whether each entry is met, and whether the numbers are floors."""

from leastcode.kinds import is_integer
from leastcode.standings import bit_counts, code_of, codes_behind


class Rules:
    """The moves of the names that are needed at a place: for each text what it does."""

    def __init__(self, task, names):
        fixed = task.work.fixed
        prices = task.prices
        self.most_held = task.slots
        self.mask = (1 << len(names)) - 1
        self.counts = bit_counts(len(names))
        self.told = {}
        for at, name in enumerate(names):
            held = 1 << at
            stored = held << len(names)
            # Bits that must be there, bits that must not, whether a slot must be free, what is changed, the price.
            self.told[f"load {name}"] = (stored, held, True, held, prices.load_of(name))
            self.told[f"store {name}"] = (held, stored, False, stored, prices.store)
            self.told[f"forget {name}"] = (held, 0, False, held, 0)
            if name in fixed:
                self.told[f"again {name}"] = (0, held, True, held, fixed[name][1])

    def behind_moves(self, code, moves):
        """The standing behind the moves and their price, or None if any value is no row of such that can be done."""
        if not isinstance(moves, tuple):
            return None
        whole = 0
        for move in moves:
            if not isinstance(move, str) or move not in self.told:
                return None
            there, away, wants_slot, change, price = self.told[move]
            if code & there != there or code & away or wants_slot and self.counts[code & self.mask] >= self.most_held:
                return None
            code = code ^ change
            whole = whole + price
        return code, whole


def table_numbers(ground, table):
    """The numbers of a table of entries by the indexes of the ground, or None if any value is none of this form."""
    texts = ground.texts()
    if not isinstance(table, dict) or len(table) != len(texts):
        return None
    found = []
    for text in texts:
        entry = table.get(text)
        if not isinstance(entry, tuple) or len(entry) != 3 or not is_integer(entry[0]):
            return None
        found.append(entry[0])
    return found


def is_told(text, places):
    """Whether any value is one of the keys, texts or None."""
    return (text is None or isinstance(text, str)) and text in places


def are_floors(numbers, edges):
    """Whether no number is more than what an edge brings there."""
    return all([numbers[end] <= numbers[start] + price for start, end, price in edges])


def looked_from_start(task, road, tables):
    """The numbers at the end of a road that begins where the work does, or None if a table is not right."""
    ground = road.grounds[0]
    starts = {None: (0, code_of(ground.wanted, (), task.work.given))}
    numbers = looked_forward(task, ground, tables[0], starts)
    return None if numbers is None else looked_along(task, road, tables[1:], numbers)


def looked_along(task, road, tables, numbers):
    """The numbers at the end of a road, from those at its beginning, or None if a table is not right."""
    for at, leads in enumerate(road.leads):
        ground = road.grounds[at + 1]
        starts = {}
        for text, number, to in zip(road.grounds[at].texts(), numbers, leads):
            if to is not None:
                starts[text] = (number, ground.codes[to])
        numbers = looked_forward(task, ground, tables[at], starts)
        if numbers is None:
            return None
    return numbers


def looked_forward(task, ground, table, starts):
    """The numbers of a forward table, or None if it is not right; starts are pairs of a number and a standing."""
    numbers = table_numbers(ground, table)
    if numbers is None:
        return None
    rules = Rules(task, ground.wanted)
    for number, text, code in zip(numbers, ground.texts(), ground.codes):
        _, before, moves = table[text]
        if not is_told(before, starts):
            return None
        start, ahead = starts[before]
        way = rules.behind_moves(ahead, moves)
        if way is None or way[0] & code != code or number != start + way[1]:
            return None
    if not are_floors(numbers, ground.edges) or not are_floors(numbers, ground.drops()):
        return None
    if not all([numbers[ground.spots[code]] <= start for start, code in starts.values()]):
        return None
    return numbers


def looked_to_end(task, road, tables):
    """The numbers to go at the beginning of a road that ends where the work does, or None if a table is not right."""
    ground = road.grounds[-1]
    stored = code_of(ground.wanted, (), task.work.results)
    numbers = looked_to_go(task, ground, tables[-1], {None: (0, stored)}, None)
    work = task.work
    lines = work.loop + work.behind
    for at in range(len(lines) - 1, -1, -1):
        if numbers is None:
            return None
        later = road.grounds[at + 1]
        ends = {text: (number, code) for text, number, code in zip(later.texts(), numbers, later.codes)}
        numbers = looked_to_go(task, road.grounds[at], tables[at], ends, (lines[at], later.wanted))
    return numbers


def looked_to_go(task, ground, table, ends, step):
    """The numbers of a table to go, or None if it is not right.

    ends are pairs of a number and a standing; step is the line and the names that are needed behind it, or None.
    """
    numbers = table_numbers(ground, table)
    if numbers is None:
        return None
    rules = Rules(task, ground.wanted)
    ways = [rules.behind_moves(code, table[text][1]) for text, code in zip(ground.texts(), ground.codes)]
    if any([way is None for way in ways]):
        return None
    led = led_by(task, ground, step, [code for code, _ in ways])
    for number, text, way, to in zip(numbers, ground.texts(), ways, led):
        behind = table[text][2]
        if to is None or not is_told(behind, ends):
            return None
        end, code = ends[behind]
        if to & code != code or number != end + way[1]:
            return None
    if not are_floors(numbers, [(end, start, price) for start, end, price in ground.edges]):
        return None
    return numbers if ends_are_floors(numbers, led_by(task, ground, step, ground.codes), ends) else None


def led_by(task, ground, step, codes):
    """The standings behind the line of a step, or None where it cannot be done; without a step they stay."""
    if step is None:
        return codes
    line, later = step
    return codes_behind(line, codes, ground.wanted, later, task.slots)


def ends_are_floors(numbers, led, ends):
    """Whether no number is more than that of the end to which it leads."""
    if None in ends:
        number, code = ends[None]
        return all([own <= number for own, to in zip(numbers, led) if to & code == code])
    known = {code: number for number, code in ends.values()}
    return all([own <= known[to] for own, to in zip(numbers, led) if to in known])
