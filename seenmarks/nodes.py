"""Nodes, and the steps between them: what may stand in a cycle that pivots at a read."""


def are_in_conflict(one, other):
    """Tell whether a field is written at one of two Variables, and read or written at the other one."""
    if one.kind != other.kind:
        return False
    return one.write_set.meets(other.read_set | other.write_set) or other.write_set.meets(one.read_set)


class Chart:
    """All variables of a catalog, given as pairs (name of a template, number), and their conflicts."""

    def __init__(self, catalog):
        self.catalog = catalog
        # By pair, in the order of templates and variables, its Variable.
        self.known = {
            (name, number): part for name in catalog.names() for number, part in enumerate(catalog[name].parts)
        }
        # By pair, the list of the pairs that conflict with it.
        self.conflicts = {
            pair: [other for other in self.known if are_in_conflict(part, self.known[other])]
            for pair, part in self.known.items()
        }

    def pairs_of(self, name):
        """Return the list of the pairs of one template."""
        return [(name, number) for number in range(len(self.catalog[name].parts))]


class Search:
    """The allowed nodes for a read with a cover, and the steps between them."""

    def __init__(self, chart, pair, cover):
        self.chart = chart
        # The read, u of f in the document, and its Variable.
        self.pair = pair
        self.part = chart.known[pair]
        self.single = chart.catalog.schema[self.part.kind].single
        # The pairs at which no field of the cover is written.
        self.harmless = {other: True for other, part in chart.known.items() if not part.write_set.meets(cover)}
        nodes = [(name, number, here) for name, number in chart.known for here in (False, True)]
        self.allowed = {node: True for node in nodes if self.may_stand(node)}

    def has_kind(self, pair):
        """Tell whether a variable has the kind of the read."""
        return self.chart.known[pair].kind == self.part.kind

    def may_stand(self, node):
        """Tell whether a node is allowed."""
        name, number, here = node
        if here and not (self.has_kind((name, number)) and (name, number) in self.harmless):
            return False
        if not self.single:
            return True
        kin = [pair for pair in self.chart.pairs_of(name) if self.has_kind(pair)]
        return here == self.has_kind((name, number)) and all([pair in self.harmless for pair in kin])

    def starts(self):
        """Return the list of the start nodes."""
        return [
            (name, number, here) for name, number, here in self.allowed
            if here and self.part.read_set.meets(self.chart.known[name, number].write_set)
        ]

    def roles(self, node, pair):
        """Return the list of the bools, whether a variable of a node's template stands for the pivot resource.

        It is left out that it does where it writes a field of the cover, as nothing may follow from that.
        """
        name, number, here = node
        if pair == (name, number):
            roles = [here]
        elif here or not self.has_kind(pair):
            roles = [False]
        else:
            roles = [True] if self.single else [False, True]
        return [role for role in roles if not role or pair in self.harmless]

    def steps_from(self, node):
        """Return the list of the pairs (number, following node) of the steps from an allowed node.

        The variable with this number stands for one resource with the variable of the following node.
        """
        found = []
        for pair in self.chart.pairs_of(node[0]):
            for role in self.roles(node, pair):
                for name, number in self.chart.conflicts[pair]:
                    if (name, number, role) in self.allowed:
                        found.append((pair[1], (name, number, role)))
        return found

    def closings(self, node):
        """Return the list of the pairs (number, last node) of all ways in which an allowed node closes.

        The last node is a variable of the read's template, which stands for one resource with the variable with
        this number. It need not be allowed.
        """
        found = []
        for pair in self.chart.pairs_of(node[0]):
            for role in self.roles(node, pair):
                for name, number in self.ends_at(pair, role):
                    found.append((pair[1], (name, number, role)))
        return found

    def ends_at(self, pair, role):
        """Return the list of the variables of the read's template on which this variable has a last dependency."""
        if not role:
            mine = self.chart.pairs_of(self.pair[0])
            return [other for other in mine if other != self.pair and other in self.chart.conflicts[pair]]
        part = self.chart.known[pair]
        return [self.pair] if self.part.write_set.meets(part.read_set | part.write_set) else []

    def reached(self):
        """Return a dict of all nodes to which steps lead from the start nodes, those first that are reached first.

        The value is None of a start node. Of another one it is (node ahead, number), one step that leads to it.
        """
        found = {node: None for node in self.starts()}
        layer = list(found)
        while layer:
            fresh = []
            for node in layer:
                for number, following in self.steps_from(node):
                    if following not in found:
                        found[following] = (node, number)
                        fresh.append(following)
            layer = fresh
        return found
