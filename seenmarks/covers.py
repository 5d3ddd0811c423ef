"""The smallest covers, and what the choice of a cover changes."""

from seenmarks.catalogs import cover_of, part_of
from seenmarks.fields import Fields
from seenmarks.nodes import Chart, Search
from seenmarks.pivots import all_reads, pivot_of
from seenmarks.witnesses import chained_history


def number_and_words(words):
    """Return what lists of words are ordered by: their number, and then as Python orders lists."""
    return len(words), words


def covers_in_order(words):
    """Return all ascending lists of some of these ascending words, by their number and then as Python orders lists."""
    found = [[]]
    for word in words:
        found = found + [some + [word] for some in found]
    return sorted(found, key=number_and_words)


def failing_covers(catalog, name, variable):
    """Return the list of the pairs (cover, history) of all covers ahead of the smallest one."""
    part = part_of(catalog, name, variable)
    chart = Chart(catalog)
    found = []
    # The last one is not tried, as all fields that are read are always enough.
    for cover in covers_in_order(part.read_set.words())[:-1]:
        word, told = pivot_of(Search(chart, (name, variable), Fields(cover)))
        if word == "never":
            break
        found.append((cover, told))
    return found


def smallest_cover(catalog, name, variable):
    """Return the ascending list of as few words as possible with which no cycle can pivot at the read."""
    part = part_of(catalog, name, variable)
    return covers_in_order(part.read_set.words())[len(failing_covers(catalog, name, variable))]


def too_small(catalog, name, variable):
    """Return the list of the pairs (cover, history) of all covers ahead of the smallest one, which do not do."""
    return failing_covers(catalog, name, variable)


def with_smallest_covers(catalog):
    """Return the catalog in which each read has its smallest cover."""
    changed = catalog
    for name, variable in all_reads(catalog):
        changed = changed.with_cover(name, variable, smallest_cover(catalog, name, variable))
    return changed


def parted(catalog, name, variable, one, other):
    """Return None if two covers always accept the same updates, or a history of two steps that they judge unlike."""
    part = part_of(catalog, name, variable)
    first = cover_of(catalog, part, one)
    second = cover_of(catalog, part, other)
    for (writer, number), theirs in Chart(catalog).known.items():
        if theirs.kind == part.kind and theirs.write_set.meets(first) != theirs.write_set.meets(second):
            nodes = [(writer, number, True), (name, variable, True)]
            return chained_history(catalog, part.kind, nodes, [number, variable])
    return None
