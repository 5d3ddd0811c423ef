"""At which reads cycles pivot, decided for all histories of a catalog at once."""

from seenmarks.catalogs import part_of
from seenmarks.checks import is_int, is_list, is_word
from seenmarks.errors import BadStep
from seenmarks.histories import dependencies_of
from seenmarks.nodes import Chart, Search
from seenmarks.steps import record_of
from seenmarks.witnesses import chained_history

NODE_ITEMS = 3


def search_of(catalog, name, variable):
    """Return the Search for a read of a catalog, with the cover that it has."""
    part = part_of(catalog, name, variable)
    return Search(Chart(catalog), (name, variable), part.cover_set)


def way_to(found, node, number):
    """Return the list of the pairs (node, number) on the way from a start node to this node, this pair included."""
    way = []
    ahead = (node, number)
    while ahead is not None:
        way.append(ahead)
        ahead = found[ahead[0]]
    return way[::-1]


def pivot_of(search):
    """Return ("never", nodes) or ("cycle", history), as `pivot` does, for a search."""
    found = search.reached()
    for node in found:
        closings = search.closings(node)
        if closings:
            number, last = closings[0]
            way = way_to(found, node, number)
            nodes = [ahead for ahead, link in way] + [last]
            numbers = [link for ahead, link in way] + [search.pair[1]]
            return "cycle", chained_history(search.chart.catalog, search.part.kind, nodes, numbers)
    return "never", sorted(list(found))


def pivot(catalog, name, variable):
    """Return ("never", nodes) if no cycle can pivot at a read, or ("cycle", history) with one that does."""
    return pivot_of(search_of(catalog, name, variable))


def is_pivot(catalog, name, variable, history):
    """Tell of any object as history whether it is one with a cycle that pivots at the read."""
    part_of(catalog, name, variable)
    try:
        record = record_of(catalog, history)
    except BadStep:
        return False
    last = len(record.steps) - 1
    if last < 1 or not all(record.verdicts) or record.steps[last].template.name != name:
        return False
    rows = dependencies_of(record)
    followed = {(row[0], row[1]): True for row in rows}
    miss = (last, 0, "miss", record.steps[last].resources[variable])
    return all([(index, index + 1) in followed for index in range(last)]) and any([row[:4] == miss for row in rows])


def is_node(search, thing):
    """Tell of any object whether it is an allowed node."""
    if not is_list(thing) or len(thing) != NODE_ITEMS:
        return False
    # Asked first, as True would be found where 1 is, and a list cannot be looked for in a dict.
    if not (is_word(thing[0]) and is_int(thing[1]) and isinstance(thing[2], bool)):
        return False
    return tuple(thing) in search.allowed


def is_closed(catalog, name, variable, nodes):
    """Tell of any object as nodes whether it is a list that shows that no cycle can pivot at the read."""
    search = search_of(catalog, name, variable)
    if not is_list(nodes) or not all([is_node(search, thing) for thing in nodes]):
        return False
    known = {tuple(thing): True for thing in nodes}
    if not all([node in known for node in search.starts()]):
        return False
    for node in known:
        if search.closings(node) or not all([following in known for number, following in search.steps_from(node)]):
            return False
    return True


def all_reads(catalog):
    """Return the list of the pairs (name, variable) of all reads, by the order of templates and variables."""
    return [(name, variable) for name in catalog.names() for variable in range(len(catalog[name].parts))]


def all_results(catalog):
    """Return the list of the tuples (name, variable, word, what is told) of all reads, as `pivot` returns them."""
    found = []
    for name, variable in all_reads(catalog):
        word, told = pivot(catalog, name, variable)
        found.append((name, variable, word, told))
    return found


def pivots(catalog):
    """Return the list of the reads at which cycles pivot, pairs (name, variable)."""
    return [(name, variable) for name, variable, word, told in all_results(catalog) if word == "cycle"]


def judge(catalog):
    """Return ("serial", closed) if every history has a serial order, or ("cycle", history) with a shortest one."""
    results = all_results(catalog)
    histories = [told for name, variable, word, told in results if word == "cycle"]
    if histories:
        return "cycle", min(histories, key=len)
    return "serial", [(name, variable, told) for name, variable, word, told in results]


def writers_between(catalog, name, variable):
    """Return the list of the tuples (pair, whether a field is written that is read, whether one of the cover is)."""
    part = part_of(catalog, name, variable)
    found = []
    for pair, other in Chart(catalog).known.items():
        if other.kind == part.kind:
            found.append((pair, other.write_set.meets(part.read_set), other.write_set.meets(part.cover_set)))
    return found


def unnoticed(catalog, name, variable):
    """Return the list of the variables at which a field is written that is read here, but none of the cover."""
    return [pair for pair, read, covered in writers_between(catalog, name, variable) if read and not covered]


def needless(catalog, name, variable):
    """Return the list of the variables at which a field of the cover is written, but none that is read here."""
    return [pair for pair, read, covered in writers_between(catalog, name, variable) if covered and not read]
