"""How the tables come round: those of the prices so far, and those of the prices to go."""

from leastcode.roads import back, forward, from_end, from_start


class Course:
    """Tables one after another, up to the first one that is an earlier one and a number more.

    tables are the lists of their numbers, early is the index of the earlier one, or None if none was found.
    """

    def __init__(self, tables, early):
        self.tables = tables
        self.early = early

    def came_round(self):
        """The index of the earlier table, how many tables later it came round, and by how much more."""
        gap = len(self.tables) - 1 - self.early
        return self.early, gap, self.tables[-1][0] - self.tables[self.early][0]

    def numbers_at(self, index):
        """The numbers of the table with this index, which may be one that was not made."""
        if index < len(self.tables):
            return list(self.tables[index])
        early, gap, rise = self.came_round()
        times, rest = divmod(index - early, gap)
        return [number + times * rise for number in self.tables[early + rest]]


def shape(numbers):
    """The numbers without the least one, which are the same for tables that differ by one number throughout."""
    least = min(numbers)
    return tuple([number - least for number in numbers])


def course(first, following, most):
    """The course of tables from the first one on, each made from the last one, up to the index most."""
    tables = [first]
    seen = {shape(first): 0}
    while len(tables) <= most:
        tables.append(following(tables[-1]))
        key = shape(tables[-1])
        if key in seen:
            return Course(tables, seen[key])
        seen[key] = len(tables) - 1
    return Course(tables, None)


def course_so_far(roads, most):
    """The course of the tables U_0, U_1, .. up to U_most."""
    road = roads.through_round()
    first = from_start(roads.before_rounds(), roads.task.work.given)
    return course(first, lambda numbers: forward(road, numbers), most)


def course_to_go(roads, most):
    """The course of the tables V_1, V_2, .. up to V_most; the index of V_1 is 0."""
    road = roads.through_round()
    first = from_end(roads.through_last(), roads.task.work.results)
    return course(first, lambda numbers: back(road, numbers), most - 1)
