"""Entries: how the numbers at places are had, by which moves, and from which standings or to which."""

from leastcode.grounds import drop, settle
from leastcode.roads import brought_back, carried, end_numbers, start_numbers


def walk(spot, led, edges, moves):
    """The way along the edges that led to a standing's number: where it ends, and the moves on it, in this order."""
    found = []
    while led[spot] is not None:
        edge = led[spot]
        found.append(moves[edge])
        spot = edges[edge][0]
    return spot, found


def entries_so_far(ground, numbers, texts):
    """The table of entries, forward, of numbers that are settled by it; texts are those of the standings ahead."""
    led = settle(numbers, ground.edges)
    # Names that are stored too much are left only behind all moves, so that each move can be done on the way.
    drops = ground.drops()
    dropped = drop(numbers, drops)
    found = {}
    for at, text in enumerate(ground.texts()):
        better, _ = walk(at, dropped, drops, [None] * len(drops))
        spot, moves = walk(better, led, ground.edges, ground.moves())
        found[text] = (numbers[at], texts[spot], tuple(moves[::-1]))
    return found


def entries_to_go(ground, numbers, texts):
    """The table of entries, to go, of numbers that are settled by it; texts are those of the standings behind."""
    led = settle(numbers, ground.edges_back)
    moves_back = ground.moves_back()
    found = {}
    for at, text in enumerate(ground.texts()):
        spot, moves = walk(at, led, ground.edges_back, moves_back)
        found[text] = (numbers[at], tuple(moves), texts[spot])
    return found


def texts_at(ground, spots):
    """The texts of the standings with these indexes, None for None."""
    texts = ground.texts()
    return [None if spot is None else texts[spot] for spot in spots]


def first_entries(ground, given):
    """The numbers at the beginning, and their table of entries."""
    numbers = start_numbers(ground, given)
    return numbers, entries_so_far(ground, numbers, [None] * len(numbers))


def last_entries(ground, results):
    """The numbers to go at the end, and their table of entries."""
    numbers = end_numbers(ground, results)
    return numbers, entries_to_go(ground, numbers, [None] * len(numbers))


def tables_along(road, numbers):
    """The numbers at the end of a road, and the tables of entries behind each line, from the numbers ahead."""
    tables = []
    for at, leads in enumerate(road.leads):
        ground = road.grounds[at + 1]
        numbers, sources = carried(numbers, leads, ground)
        tables.append(entries_so_far(ground, numbers, texts_at(road.grounds[at], sources)))
    return numbers, tables


def tables_from_start(road, given):
    """The numbers at the end of a road that begins where the work does, and the tables of entries of its places."""
    numbers, first = first_entries(road.grounds[0], given)
    numbers, tables = tables_along(road, numbers)
    return numbers, [first, *tables]


def tables_to_end(road, results):
    """The tables of entries to go of the places of a road that ends where the work does."""
    numbers, last = last_entries(road.grounds[-1], results)
    tables = [last]
    for at in range(len(road.leads) - 1, -1, -1):
        leads = road.leads[at]
        numbers = brought_back(numbers, leads)
        tables.append(entries_to_go(road.grounds[at], numbers, texts_at(road.grounds[at + 1], leads)))
    return tables[::-1]
