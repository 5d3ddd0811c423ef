"""Templates, which describe updates, and attempts to run them."""

from seenmarks.checks import is_int, is_list, is_natural, is_word
from seenmarks.drafts import Draft
from seenmarks.errors import BadCopies, BadCount, BadTemplate, BadValues, BadWord, Rejected
from seenmarks.fields import Fields, is_field_set
from seenmarks.servers import Copy

MOST_VARIABLES = 3
FIELD_SETS = ("reads", "cover", "writes")


class Variable:
    """A variable of a template: a kind, and the Fields that are read, covered and written. It never changes."""

    def __init__(self, kind, read_set, cover_set, write_set):
        self.kind = kind
        self.read_set = read_set
        self.cover_set = cover_set
        self.write_set = write_set


def fault_of_variable(index, thing):
    """Return the reason why a thing cannot be the variable with this number, or None if it can."""
    if index >= MOST_VARIABLES or not is_list(thing) or len(thing) != 1 + len(FIELD_SETS):
        return "variable"
    kind, *field_sets = thing
    if not is_word(kind):
        return "kind"
    for reason, field_set in zip(FIELD_SETS, field_sets):
        if not is_field_set(field_set):
            return reason
    return None


def check_variables(variables):
    """Raise BadTemplate unless this is a list of one to three variables."""
    if not is_list(variables) or len(variables) == 0:
        raise BadTemplate(0, "variable")
    for index, thing in enumerate(variables):
        reason = fault_of_variable(index, thing)
        if reason is not None:
            raise BadTemplate(index, reason)


class Template:
    """A description of updates. It never changes."""

    def __init__(self, name, variables):
        if not is_word(name):
            raise BadWord(name)
        check_variables(variables)
        self.name = name
        self.parts = tuple([
            Variable(kind, Fields(reads), Fields(cover), Fields(writes)) for kind, reads, cover, writes in variables
        ])

    def variables(self):
        """Return the list of the tuples (kind, reads, cover, writes), each with three lists of words."""
        return [
            (part.kind, part.read_set.words(), part.cover_set.words(), part.write_set.words()) for part in self.parts
        ]

    def __call__(self, copies, values):
        self.check_copies(copies)
        places = self.written_places(copies)
        if not is_list(values) or len(values) != len(places) or not all([is_int(value) for value in values]):
            raise BadValues()
        draft = Draft()
        for part, copy in zip(self.parts, copies):
            if part.cover_set:
                draft.require(copy.tag(part.cover_set))
        for (resource, field), value in zip(places, values):
            draft[resource, field] = value
        resources = tuple([copy.resource for copy in copies])
        draft.label = (self.name, resources, tuple([copy.moment for copy in copies]))
        return draft

    def check_copies(self, copies):
        """Raise BadCopies unless this is a list of a copy for each variable, of unlike resources."""
        if not is_list(copies):
            raise BadCopies(0)
        earlier = []
        for index, copy in enumerate(copies):
            if index >= len(self.parts) or not isinstance(copy, Copy):
                raise BadCopies(index)
            if copy.resource[0] != self.parts[index].kind or copy.resource in earlier:
                raise BadCopies(index)
            earlier.append(copy.resource)
        if len(copies) < len(self.parts):
            raise BadCopies(len(copies))

    def written_places(self, copies):
        """Return the list of the pairs (resource, field) that are written, in the order of the values."""
        return [
            (copy.resource, field) for part, copy in zip(self.parts, copies) for field in part.write_set.words()
        ]

    def __eq__(self, other):
        return isinstance(other, Template) and self.name == other.name and self.variables() == other.variables()


def renewed(source, copies, stale):
    """Return the list of the copies, with the latest ones in the place of those whose tags are stale."""
    fresh = {}
    for tag in stale:
        if tag.resource not in fresh:
            fresh[tag.resource] = source.latest(tag.resource)
    return [fresh.get(copy.resource, copy) for copy in copies]


def attempt(source, template, resources, compute, *, tries=3):
    """Run an update until it is accepted; return its number and the number of the tries."""
    if not is_natural(tries) or tries == 0:
        raise BadCount(tries)
    copies = [source.read(resource) for resource in resources]
    tried = 0
    while True:
        tried += 1
        draft = template(copies, compute(list(copies)))
        # Only this call stands in the `try`, as a Rejected of the function's own is passed on.
        try:
            return source.handle(draft), tried
        except Rejected as error:
            if tried == tries:
                raise
            stale = error.stale
        copies = renewed(source, copies, stale)
