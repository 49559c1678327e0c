"""Codes of least price, made from the prices to go."""

from leastcode.codes import Code
from leastcode.errors import TooMany
from leastcode.hands import Hand
from leastcode.roads import Roads, end_numbers
from leastcode.standings import rows_of_names
from leastcode.tables import USUAL_MOST, turning
from leastcode.turns import course_to_go
from leastcode.ways import WayOn, WayThere

MOST_NUMBERS = 3000


def code_for(task, most=USUAL_MOST):
    """A code that is right for the work of the task, and whose price is the least one for every number of rounds."""
    roads = Roads(task)
    course = turning(course_to_go(roads, most), most)
    early, gap, rise = course.came_round()
    if len(roads.head().codes) * (early + 1 + gap) > MOST_NUMBERS:
        raise TooMany(MOST_NUMBERS)
    writer = Writer(task, roads, course.tables, early + 2)
    begins = writer.write_begins()
    writer.write_blocks()
    work = task.work
    constants = {work.names.index(name): pair[0] for name, pair in work.fixed.items()}
    return Code(task.slots, work.names, work.modulus, constants, work.given, work.results, early + 2, gap, begins,
                writer.sections, tuple(writer.label_holdings), writer.to_go, rise)


class Writer:
    """Writes the begins and the blocks of a code, and gives labels to what registers and cells hold between them."""

    def __init__(self, task, roads, tables, ring):
        # tables are those of the prices to go, from that with one round to come on; they come round at the stage ring.
        self.task = task
        self.roads = roads
        self.tables = tables
        self.ring = ring
        self.labels = {}
        self.spots = []
        self.label_holdings = []
        self.sections = {}
        self.to_go = {}
        self.ways = {}
        self.queue = []

    def label_of(self, held, spot):
        """The label of a standing at the head of a round with its names in these registers."""
        key = (tuple(held), spot)
        if key not in self.labels:
            ground = self.roads.head()
            stored = rows_of_names(ground.wanted)[ground.codes[spot] >> len(ground.wanted)]
            self.labels[key] = len(self.spots)
            self.spots.append(spot)
            self.label_holdings.append((key[0], stored))
        return self.labels[key]

    def write_begins(self):
        """The begins of all stages, to whose blocks the labels lead."""
        work = self.task.work
        road = self.roads.without_rounds()
        way = WayThere(road, work.given)
        ends = end_numbers(road.grounds[-1], work.results)
        found = [(self.begin(way, work.ahead + work.behind, ends)[0], None)]
        way = WayThere(self.roads.before_rounds(), work.given)
        for at, numbers in enumerate(self.tables):
            instructions, held, spot = self.begin(way, work.ahead, numbers)
            found.append((instructions, self.come_to(self.label_of(held, spot), at + 1)))
        return tuple(found)

    def begin(self, way, lines, to_go):
        """The instructions of a begin with the least sum of its price and that to go, registers, and the standing."""
        sums = [number + later for number, later in zip(way.reached, to_go)]
        spot = sums.index(min(sums))
        hand = Hand([None] * self.task.slots, self.task.work)
        hand.write_way(way.moves_to(spot), lines, way.road.grounds)
        return tuple(hand.written), hand.held, spot

    def come_to(self, label, stage):
        """Note that the block of a label and a stage is wanted; the label."""
        if (label, stage) not in self.sections:
            self.sections[label, stage] = None
            self.queue.append((label, stage))
        return label

    def write_blocks(self):
        """Write all blocks that are come to."""
        while self.queue:
            label, stage = self.queue.pop()
            self.sections[label, stage] = self.block(label, stage)
            self.to_go[label, stage] = self.tables[stage - 1][self.spots[label]]

    def block(self, label, stage):
        """The block of a label and a stage."""
        work = self.task.work
        way = self.way_of(stage)
        moves, spot = way.moves_from(self.spots[label])
        hand = Hand(self.label_holdings[label][0], work)
        hand.write_way(moves, work.loop if stage > 1 else work.loop + work.behind, way.road.grounds)
        if stage == 1:
            return tuple(hand.written), None
        behind = self.come_to(self.label_of(hand.held, spot), stage - 1)
        if stage == self.ring:
            self.come_to(behind, len(self.tables))
        return tuple(hand.written), behind

    def way_of(self, stage):
        """The least ways on through a round of a stage."""
        if stage not in self.ways:
            if stage == 1:
                self.ways[stage] = WayOn(self.roads.through_last(), None, self.task.work.results)
            else:
                self.ways[stage] = WayOn(self.roads.through_round(), self.tables[stage - 2], ())
        return self.ways[stage]
