"""What the document says of standings, plans and papers, done plainly over all standings of all names.

Of the package only works, sums, tasks and prices are used here, so that the rest can be held against this.
A standing is a pair of frozensets: the names in slots, and the stored ones.
"""

import heapq
import itertools

from leastcode.errors import TooMany
from leastcode.prices import Prices
from leastcode.sums import Sum
from leastcode.tasks import Task
from leastcode.works import Let, Tell, Work


def text_of(standing):
    """The text of a standing."""
    return " / ".join(" ".join(sorted(names)) or "-" for names in standing)


def standing_of(text):
    """The standing with this text."""
    held, stored = text.split(" / ")
    return tuple(frozenset([] if names == "-" else names.split(" ")) for names in (held, stored))


def moved(standing, move, task):
    """The price of a move and the standing behind it, or None if it cannot be done."""
    held, stored = standing
    kind, name = move.split(" ")
    prices = task.prices
    if kind == "load" and name in stored and name not in held and len(held) < task.slots:
        return prices.loads.get(name, prices.load), (held | {name}, stored)
    if kind == "again" and name in task.work.fixed and name not in held and len(held) < task.slots:
        return task.work.fixed[name][1], (held | {name}, stored)
    if kind == "store" and name in held and name not in stored:
        return prices.store, (held, stored | {name})
    if kind == "forget" and name in held:
        return 0, (held - {name}, stored)
    return None


def all_moves(names):
    return [f"{kind} {name}" for kind in ("load", "again", "store", "forget") for name in names]


def done(line, standing, slots):
    """The standing behind a line, or None if it cannot be done."""
    held, stored = standing
    if not set(line.uses) <= held:
        return None
    if line.makes is None:
        return standing
    if line.makes not in held and len(held) == slots:
        return None
    return held | {line.makes}, stored - {line.makes}


def spread(found, task):
    """The least prices of all standings that moves can reach from those that are found."""
    least = {}
    queue = [(number, at, standing) for at, (standing, number) in enumerate(found.items())]
    heapq.heapify(queue)
    count = len(queue)
    while queue:
        number, _, standing = heapq.heappop(queue)
        if standing in least:
            continue
        least[standing] = number
        for move in all_moves(task.work.names):
            step = moved(standing, move, task)
            if step is not None and step[1] not in least:
                count += 1
                heapq.heappush(queue, (number + step[0], count, step[1]))
    return least


def search(task, found, lines):
    """The least prices of all standings behind some lines, and moves behind them."""
    found = spread(found, task)
    for line in lines:
        behind = {}
        for standing, number in found.items():
            to = done(line, standing, task.slots)
            if to is not None:
                behind[to] = min(number, behind.get(to, number))
        found = spread(behind, task)
    return found


def beginning(task):
    return {(frozenset(), frozenset(task.work.given)): 0}


def end_price(task, found):
    return min(number for (_, stored), number in found.items() if set(task.work.results) <= stored)


def plain_price(task, n):
    """f(n)."""
    work = task.work
    return end_price(task, search(task, beginning(task), work.ahead + work.loop * n + work.behind))


def needed_of(lines, results):
    """The names that are needed ahead of some lines, all that are still to come."""
    found = set()
    for name in {name for line in lines for name in (*line.uses, line.makes)} | set(results):
        for line in lines:
            if name in line.uses:
                found.add(name)
                break
            if name == line.makes:
                break
        else:
            if name in results:
                found.add(name)
    return tuple(sorted(found))


def later_lines(work, place, first=True, further=True):
    """The lines that are still to come at a place."""
    part, index = place
    if part == "ahead":
        return work.ahead[index:] + work.loop * (2 if first else 0) + work.behind
    if part == "loop":
        return work.loop[index:] + work.loop * (2 if further else 0) + work.behind
    return work.behind[index:]


def subsets(names):
    return [frozenset(part) for many in range(len(names) + 1) for part in itertools.combinations(names, many)]


def sound_at(task, names):
    """All sound standings where these names are needed."""
    found = []
    for held, stored in itertools.product(subsets(names), repeat=2):
        if len(held) <= task.slots and set(names) <= held | stored | set(task.work.fixed):
            found.append((held, stored))
    return found


def as_good(one, other):
    """Whether the first standing is at least as good as the second one."""
    return one[0] >= other[0] and one[1] >= other[1]


def head_names(work):
    return needed_of(work.loop + work.behind, work.results)


def plain_table(task, r):
    """U_r."""
    work = task.work
    found = search(task, beginning(task), work.ahead + work.loop * r)
    return {text_of(key): min(number for standing, number in found.items() if as_good(standing, key))
            for key in sound_at(task, head_names(work))}


def plain_table_to_go(task, j):
    """V_j."""
    work = task.work
    lines = work.loop * j + work.behind
    return {text_of(key): end_price(task, search(task, {key: 0}, lines)) for key in sound_at(task, head_names(work))}


# Works and tasks that are drawn.

def draw_sum(rng, names):
    terms = [(rng.randint(-3, 3), (name,)) for name in rng.sample(names, rng.randint(0, min(2, len(names))))]
    if not terms or rng.random() < 0.2:
        terms.append((rng.randint(-3, 3), ()))
    if terms[0][1] and rng.random() < 0.3:
        terms[0] = (terms[0][0], terms[0][1] * 2)
    return Sum(*terms)


def draw_lines(rng, many, there, makable):
    """Some lines, each of which uses only names that are there or were made by a line before."""
    there = list(there)
    lines = []
    for _ in range(many):
        if there and (rng.random() < 0.3 or not makable):
            lines.append(Tell(*rng.sample(there, rng.randint(1, min(2, len(there))))))
        elif makable:
            made = rng.choice(makable)
            lines.append(Let(made, draw_sum(rng, there)))
            if made not in there:
                there.append(made)
    return lines, there


def draw_work(rng, names="abcd", most=3):
    """A small work, with given, fixed and carried names, lines in all parts, and results."""
    names = list(names)
    kinds = {name: rng.choice("ggfmm") for name in names}
    given = [name for name in names if kinds[name] == "g"]
    fixed = {name: (rng.randint(0, 6), rng.randint(0, 9)) for name in names if kinds[name] == "f"}
    makable = [name for name in names if kinds[name] != "f"]
    ahead, there = draw_lines(rng, rng.randint(0, most), given + list(fixed), makable)
    loop, _ = draw_lines(rng, rng.randint(0, most), there, makable)
    behind, at_end = draw_lines(rng, rng.randint(0, most - 1), there, makable)
    results = rng.sample(at_end, rng.randint(0, min(3, len(at_end))))
    return Work(ahead, loop, behind, given=given, fixed=fixed, results=results, modulus=7)


def draw_prices(rng, names="abcd"):
    loads = {name: rng.randint(0, 9) for name in names if rng.random() < 0.4}
    return Prices(rng.randint(0, 9), rng.randint(0, 9), loads)


def draw_task(rng, names="abcd", most=3):
    """A task with a small work; with many fixed names there may be too many standings, then another one is drawn."""
    while True:
        work = draw_work(rng, names, most)
        try:
            return Task(work, rng.randint(work.room, 4), draw_prices(rng, names))
        except TooMany:
            continue


# What a work says, done line by line.

def plain_total(value, values, modulus):
    whole = 0
    for factor, names in value.terms:
        for name in names:
            factor *= values[name]
        whole += factor
    return whole % modulus


def plain_lines(lines, values, modulus):
    told = []
    for line in lines:
        if isinstance(line, Tell):
            told += [values[name] for name in line.names]
        else:
            values[line.name] = plain_total(line.value, values, modulus)
    return told


def plain_outcome(work, inputs, n):
    """What the work says, round by round; where the values of a loop without tells come round, rounds are left out."""
    values = {**inputs, **{name: pair[0] for name, pair in work.fixed.items()}}
    told = plain_lines(work.ahead, values, work.modulus)
    seen = {}
    done_rounds = 0
    while done_rounds < n:
        said = plain_lines(work.loop, values, work.modulus)
        told += said
        done_rounds += 1
        state = tuple(sorted(values.items()))
        if not said and state in seen:
            gap = done_rounds - seen[state]
            done_rounds += (n - done_rounds) // gap * gap
            seen = {}
        seen[state] = done_rounds
    told += plain_lines(work.behind, values, work.modulus)
    return tuple(told), {name: values[name] for name in work.results}
