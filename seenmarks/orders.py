"""Serial orders of histories, and cycles of dependencies."""

from seenmarks.checks import is_int, is_list, is_resource_pair, is_word
from seenmarks.histories import dependencies_of
from seenmarks.steps import record_of

DEPENDENCY_ITEMS = 5


def accepted_indices(record):
    """Return the list of the indices of the accepted updates, ascending."""
    return [index for index, step in record.accepted_steps()]


def first_free(waiting, ahead):
    """Return the first of the waiting updates ahead of which none of them has to stand, or None."""
    for index in waiting:
        if not any([other in ahead[index] for other in waiting]):
            return index
    return None


def least_order(accepted, rows):
    """Return the least serial order of these updates with these dependencies, or None if there is none."""
    ahead = {index: {} for index in accepted}
    for one, other, word, resource, field in rows:
        ahead[other][one] = True
    order = []
    waiting = list(accepted)
    while waiting:
        index = first_free(waiting, ahead)
        if index is None:
            return None
        order.append(index)
        waiting.remove(index)
    return order


def way_back(start, following):
    """Return the shortest list of updates from the start on, along dependencies, that leads back to it, or None."""
    earlier = {start: []}
    layer = [start]
    while layer:
        fresh = []
        for index in layer:
            way = earlier[index] + [index]
            if start in following[index]:
                return way
            for other in following[index]:
                if other not in earlier:
                    earlier[other] = way
                    fresh.append(other)
        layer = fresh
    return None


def shortest_cycle(accepted, rows):
    """Return a cycle of as few of these dependencies as possible; there is one."""
    following = {index: {} for index in accepted}
    for row in rows:
        following[row[0]].setdefault(row[1], row)
    ways = [way_back(index, following) for index in accepted]
    best = min([way for way in ways if way is not None], key=len)
    return [following[best[at - 1]][best[at]] for at in range(len(best))]


def serial(catalog, history):
    """Return ("order", order) with the least serial order, or ("cycle", cycle) with a shortest cycle."""
    record = record_of(catalog, history)
    accepted = accepted_indices(record)
    rows = dependencies_of(record)
    order = least_order(accepted, rows)
    if order is not None:
        return "order", order
    return "cycle", shortest_cycle(accepted, rows)


def is_order(catalog, history, order):
    """Tell of any object as order whether it is a serial order of the history."""
    record = record_of(catalog, history)
    if not is_list(order) or not all([is_int(index) for index in order]):
        return False
    if sorted(order) != accepted_indices(record):
        return False
    at = {index: place for place, index in enumerate(order)}
    return all([at[row[0]] < at[row[1]] for row in dependencies_of(record)])


def dependency_of(thing):
    """Return a thing as a tuple that may be a dependency, or None if it cannot be one."""
    if not is_list(thing) or len(thing) != DEPENDENCY_ITEMS:
        return None
    one, other, word, resource, field = thing
    if not (is_int(one) and is_int(other) and is_word(word) and is_resource_pair(resource) and is_word(field)):
        return None
    return one, other, word, tuple(resource), field


def is_cycle(catalog, history, cycle):
    """Tell of any object as cycle whether it is a cycle of the history."""
    known = {row: True for row in dependencies_of(record_of(catalog, history))}
    if not is_list(cycle) or len(cycle) == 0:
        return False
    rows = [dependency_of(thing) for thing in cycle]
    if not all([row in known for row in rows]):
        return False
    if not all([rows[at - 1][1] == rows[at][0] for at in range(len(rows))]):
        return False
    return len(set([row[0] for row in rows])) == len(rows)
