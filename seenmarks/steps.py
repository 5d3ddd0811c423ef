"""The steps of histories, and what becomes of them."""

from seenmarks.checks import is_list, is_natural
from seenmarks.errors import BadStep

STEP_ITEMS = 3


class Step:
    """A step of a history: its template, and the resource and the moment of each variable."""

    def __init__(self, template, resources, moments):
        self.template = template
        self.resources = resources
        self.moments = moments

    def rows(self):
        """Return the list of the tuples (Variable, resource, moment), one for each variable."""
        return list(zip(self.template.parts, self.resources, self.moments))

    def places(self):
        """Return the list of the pairs (resource, field) that the update writes if it is accepted."""
        return [(resource, field) for part, resource, moment in self.rows() for field in part.write_set.words()]


class Record:
    """What becomes of the steps of a history when a server handles them one after the other."""

    def __init__(self, steps):
        self.steps = steps
        # For each step, whether it is accepted.
        self.verdicts = []
        # By the pair (resource, field), the indices of the accepted updates that wrote it, ascending.
        self.writers = {}
        for index, step in enumerate(steps):
            accepted = self.would_accept(step)
            self.verdicts.append(accepted)
            if accepted:
                self.note_writes(index, step)

    def would_accept(self, step):
        """Tell whether nothing that the tags of a step cover was written from its moments on."""
        return all([
            self.writers_from(moment, (resource, field)) == []
            for part, resource, moment in step.rows() for field in part.cover_set.words()
        ])

    def writers_from(self, moment, place):
        """Return the list of the updates with an index from this moment on that wrote the place."""
        return [index for index in self.writers.get(place, []) if index >= moment]

    def last_writer(self, moment, place):
        """Return the last update with an index below this moment that wrote the place, or None."""
        earlier = [index for index in self.writers.get(place, []) if index < moment]
        return earlier[-1] if earlier else None

    def note_writes(self, index, step):
        """Note that the step at this index wrote its places."""
        for place in step.places():
            self.writers.setdefault(place, []).append(index)

    def accepted_steps(self):
        """Return the list of the pairs (index, step) of the accepted updates."""
        return [(index, step) for index, step in enumerate(self.steps) if self.verdicts[index]]


def are_resources(catalog, template, things):
    """Tell whether a thing is a list of unlike resources, one for each variable of the template and of its kind."""
    if not is_list(things) or len(things) != len(template.parts):
        return False
    for part, thing in zip(template.parts, things):
        if not catalog.schema.is_resource(thing) or thing[0] != part.kind:
            return False
    return len(set([tuple(thing) for thing in things])) == len(things)


def are_moments(index, template, things):
    """Tell whether a thing is a list of an integer from 0 to the index for each variable of the template."""
    if not is_list(things) or len(things) != len(template.parts):
        return False
    return all([is_natural(thing) and thing <= index for thing in things])


def step_of(catalog, index, thing):
    """Return a thing as the step at this index of a history."""
    if not is_list(thing) or len(thing) != STEP_ITEMS or thing[0] not in catalog:
        raise BadStep(index)
    name, resources, moments = thing
    template = catalog[name]
    if not are_resources(catalog, template, resources) or not are_moments(index, template, moments):
        raise BadStep(index)
    return Step(template, [tuple(resource) for resource in resources], list(moments))


def record_of(catalog, history):
    """Return the Record of a history; raise BadStep for the first thing in it that is no step."""
    if not is_list(history):
        raise BadStep(0)
    return Record([step_of(catalog, index, thing) for index, thing in enumerate(history)])
