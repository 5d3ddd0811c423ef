"""What the document says of histories and nodes, word by word, over plain lists and sets; slow, but plainly so."""

import itertools

from seenmarks.catalogs import Catalog
from seenmarks.kinds import Kind, Schema
from seenmarks.templates import Template


def variables_of(catalog, name):
    """The tuples (kind, reads, cover, writes) with sets."""
    return [(kind, set(reads), set(cover), set(writes)) for kind, reads, cover, writes in catalog[name].variables()]


def all_variables(catalog):
    return [(name, number) for name in catalog.names() for number in range(len(catalog[name].variables()))]


def replay(catalog, history):
    """Point 28: which updates are accepted."""
    verdicts = []
    for i, (name, resources, moments) in enumerate(history):
        accepted = True
        for (kind, reads, cover, writes), resource, moment in zip(variables_of(catalog, name), resources, moments):
            for j in range(moment, i):
                if verdicts[j] and cover & written(catalog, history[j], resource):
                    accepted = False
        verdicts.append(accepted)
    return verdicts


def written(catalog, step, resource):
    """The fields that a step writes on a resource, if it is accepted."""
    name, resources, moments = step
    fields = set()
    for (kind, reads, cover, writes), place in zip(variables_of(catalog, name), resources):
        if tuple(place) == tuple(resource):
            fields |= writes
    return fields


def read_at(catalog, step):
    """The tuples (variable, field, resource, moment) of a step."""
    name, resources, moments = step
    return [(variable, field, tuple(resources[variable]), moments[variable])
            for variable, (kind, fields, cover, writes) in enumerate(variables_of(catalog, name))
            for field in sorted(fields)]


def reads(catalog, history):
    verdicts = replay(catalog, history)
    rows = []
    for step in history:
        row = []
        for variable, field, resource, moment in read_at(catalog, step):
            writers = [j for j in range(moment) if verdicts[j] and field in written(catalog, history[j], resource)]
            row.append((variable, field, writers[-1] if writers else None))
        rows.append(row)
    return rows


def dependencies(catalog, history):
    """Point 29, for every two unlike accepted updates."""
    verdicts = replay(catalog, history)
    accepted = [i for i in range(len(history)) if verdicts[i]]
    places = sorted({(tuple(resource), field) for name, resources, moments in history
                     for resource, variable in zip(resources, variables_of(catalog, name))
                     for field in variable[1] | variable[3]})
    found = []
    for i, j in itertools.permutations(accepted, 2):
        for resource, field in places:
            i_wrote = field in written(catalog, history[i], resource)
            j_wrote = field in written(catalog, history[j], resource)
            if i < j and i_wrote and j_wrote:
                found.append((i, j, "write", resource, field))
            for variable, read, place, moment in read_at(catalog, history[j]):
                if i_wrote and (read, place) == (field, resource) and moment > i:
                    found.append((i, j, "read", resource, field))
            for variable, read, place, moment in read_at(catalog, history[i]):
                if j_wrote and (read, place) == (field, resource) and moment <= j:
                    found.append((i, j, "miss", resource, field))
    return sorted(found)


def orders(verdicts, rows):
    """All serial orders, ascending, by trying out all orders of the accepted updates."""
    accepted = [i for i in range(len(verdicts)) if verdicts[i]]
    return [list(order) for order in itertools.permutations(accepted)
            if all(order.index(row[0]) < order.index(row[1]) for row in rows)]


def fewest_on_a_cycle(rows):
    """The number of dependencies of a shortest cycle, or None."""
    pairs = {row[:2] for row in rows}
    ways, many = pairs, 1
    while many <= 60:
        if any(one == other for one, other in ways):
            return many
        ways, many = {(one, last) for one, other in ways for first, last in pairs if other == first}, many + 1
    return None


def clash(one, other):
    """Point 33: whether two variables conflict."""
    return one[0] == other[0] and bool(one[3] & (other[1] | other[3]) or other[3] & (one[1] | one[3]))


class Nodes:
    """Points 33 and 34, for a read with a cover."""

    def __init__(self, catalog, name, variable, cover=None):
        self.catalog, self.name, self.number = catalog, name, variable
        self.f = variables_of(catalog, name)
        self.u = self.f[variable]
        self.kind, self.cover = self.u[0], set(self.u[2] if cover is None else cover)
        self.single = catalog.schema[self.kind].single
        self.nodes = [(g, v, here) for g, v in all_variables(catalog) for here in [False, True]
                      if self.is_allowed(g, v, here)]

    def is_allowed(self, g, v, here):
        rows = variables_of(self.catalog, g)
        first = here is False or (rows[v][0] == self.kind and not rows[v][3] & self.cover)
        harmless = not any(row[3] & self.cover for row in rows if row[0] == self.kind)
        second = not self.single or (here == (rows[v][0] == self.kind) and harmless)
        return first and second

    def starts(self):
        return [(g, v, here) for g, v, here in self.nodes
                if here and self.u[1] & variables_of(self.catalog, g)[v][3]]

    def may_stand(self, node, o):
        """What may be true of whether the variable o stands for the pivot resource."""
        g, v, here = node
        if o == v:
            return [here]
        if here or variables_of(self.catalog, g)[o][0] != self.kind:
            return [False]
        return [True] if self.single else [False, True]

    def leads(self, node, following):
        h, w, there = following
        rows, other = variables_of(self.catalog, node[0]), variables_of(self.catalog, h)[w]
        return any(clash(row, other) and there in self.may_stand(node, o) and not (there and row[3] & self.cover)
                   for o, row in enumerate(rows))

    def closes(self, node):
        for o, row in enumerate(variables_of(self.catalog, node[0])):
            others = [other for number, other in enumerate(self.f) if number != self.number]
            if False in self.may_stand(node, o) and any(clash(row, other) for other in others):
                return True
            if True in self.may_stand(node, o) and not row[3] & self.cover and self.u[3] & (row[1] | row[3]):
                return True
        return False

    def layers(self):
        """The reached nodes: those that can be reached by so many steps, and not by fewer."""
        layers = [sorted(set(self.starts()))]
        while layers[-1]:
            known = [node for layer in layers for node in layer]
            layers.append([node for node in self.nodes if node not in known
                           and any(self.leads(ahead, node) for ahead in layers[-1])])
        return layers[:-1]

    def reached(self):
        return sorted(node for layer in self.layers() for node in layer)

    def fewest(self):
        """The fewest nodes on a way to a node that closes, or None."""
        counts = [many for many, layer in enumerate(self.layers(), start=1) if any(map(self.closes, layer))]
        return counts[0] if counts else None


def is_pivot(catalog, name, variable, history):
    """Point 36, of a history."""
    if len(history) < 2 or history[-1][0] != name or not all(replay(catalog, history)):
        return False
    rows, last = dependencies(catalog, history), len(history) - 1
    follow = all(any(row[:2] == (i, i + 1) for row in rows) for i in range(last))
    resource = tuple(history[-1][1][variable])
    return follow and any(row[:4] == (last, 0, "miss", resource) for row in rows)


def next_steps(catalog, history):
    """All steps that may follow, but for the names of resources that none of the steps so far has."""
    used = [tuple(resource) for name, resources, moments in history for resource in resources]
    for name in catalog.names():
        kinds = [kind for kind, reads, cover, writes in catalog[name].variables()]
        for resources in resources_for(catalog, kinds, used):
            for moments in itertools.product(range(len(history) + 1), repeat=len(kinds)):
                yield (name, resources, list(moments))


def resources_for(catalog, kinds, used, taken=()):
    if not kinds:
        yield list(taken)
        return
    kind = kinds[0]
    if catalog.schema[kind].single:
        numbers = [0]
    else:
        known = {number for name, number in [*used, *taken] if name == kind}
        numbers = range(len(known) + 1)
    for number in numbers:
        if (kind, number) not in taken:
            yield from resources_for(catalog, kinds[1:], used, (*taken, (kind, number)))


def accepted_histories(catalog, most):
    """All histories of so many steps at most that are accepted as a whole."""
    waiting = [[]]
    while waiting:
        history = waiting.pop()
        if history:
            yield history
        if len(history) < most:
            for step in next_steps(catalog, history):
                if replay(catalog, [*history, step])[-1]:
                    waiting.append([*history, step])


def some_fields(source, words, share):
    return [word for word in words if source.random() < share]


def some_variable(source, kind, fields, share):
    """A variable at random; most of them either read or write."""
    reads, writes = some_fields(source, fields, share), some_fields(source, fields, share)
    turn = source.random()
    reads, writes = ([] if turn < 0.35 else reads), ([] if turn > 0.65 else writes)
    cover = list(fields) if source.random() < 0.1 else some_fields(source, reads, 0.4)
    return (kind.name, reads, cover, writes)


def some_catalog(source, most_templates, most_variables, fields, share, singles):
    """A catalog at random."""
    kinds = [Kind(name, list(fields), single=source.random() < singles) for name in "klm"[:source.randrange(1, 4)]]
    templates = []
    for name in "fghij"[:source.randrange((most_templates + 1) // 2, most_templates + 1)]:
        variables = []
        for number in range(source.randrange(1, most_variables + 1)):
            taken = [variable[0] for variable in variables]
            free = [kind for kind in kinds if not kind.single or kind.name not in taken]
            if free:
                variables.append(some_variable(source, source.choice(free), fields, share))
        templates.append(Template(name, variables))
    return Catalog(Schema(kinds), templates)


def some_history(source, catalog, many, numbers=3, late=3):
    """A history at random, not all of whose updates are accepted."""
    history = []
    for index in range(many):
        name = source.choice(catalog.names())
        resources = []
        for kind, reads, cover, writes in catalog[name].variables():
            free = [(kind, number) for number in range(1 if catalog.schema[kind].single else numbers + 2)
                    if (kind, number) not in resources]
            resources.append(source.choice(free[:numbers]))
        moments = [source.randrange(max(0, index - late), index + 1) for resource in resources]
        history.append((name, resources, moments))
    return history
