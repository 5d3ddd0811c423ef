"""Histories that show something: a chain of updates, of which the last one reads at the pivot resource."""

from seenmarks.templates import MOST_VARIABLES


def resource_of(catalog, index, pair):
    """Return a resource for a variable of the update at this index, unlike those of other updates and variables.

    Of a single kind there is only one. The pivot resource has the number 0, which no other resource has.
    """
    name, number = pair
    kind = catalog[name].parts[number].kind
    return (kind, 0) if catalog.schema[kind].single else (kind, 1 + MOST_VARIABLES * index + number)


def chained_history(catalog, kind, nodes, numbers):
    """Return the history with an update for each of these nodes, in this order.

    The first node stands for the pivot resource, which is of this kind. For each update a number is given, that of its
    variable which stands for one resource with the following node; for the last update, that of its variable which
    stands for the pivot resource and reads it at the moment 0. All else is read at the moment of the update itself.
    """
    pivot_resource = (kind, 0)
    shared = pivot_resource
    history = []
    for index, (name, own, here) in enumerate(nodes):
        # Whether the variable with the given number stands for the pivot resource.
        role = nodes[index + 1][2] if index + 1 < len(nodes) else True
        resources = []
        for variable in range(len(catalog[name].parts)):
            if variable == own:
                resources.append(shared)
            elif variable == numbers[index] and role:
                resources.append(pivot_resource)
            else:
                resources.append(resource_of(catalog, index, (name, variable)))
        history.append((name, resources, [index] * len(resources)))
        shared = resources[numbers[index]]
    history[-1][2][numbers[-1]] = 0
    return history
