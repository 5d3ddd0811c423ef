"""Servers, which accept and reject updates, and the copies of resources that they return."""

from seenmarks.errors import BadResource, Rejected, UnknownField, Unlabelled
from seenmarks.fields import Fields
from seenmarks.tags import Tag


def check_known(words, known):
    """Raise UnknownField for the first of these words that is not among those known."""
    for word in words:
        if word not in known:
            raise UnknownField(word)


def pairs_by_resource(writes):
    """Return a dict of the lists of the pairs (field, value) that are written, by their resources."""
    found = {}
    for resource, field, value in writes:
        found.setdefault(resource, []).append((field, value))
    return found


class State:
    """What a resource is after some accepted updates. It never changes, so that copies may share it."""

    def __init__(self, contents, tallies):
        # By field, its value.
        self.contents = contents
        # By the tuple of the fields that an update wrote, the number of updates that wrote just these.
        self.tallies = tallies

    def count_of(self, cover):
        """Return the number of updates that wrote at least one field of the cover."""
        return sum([many for words, many in self.tallies.items() if cover.meets(words)])

    def after(self, pairs):
        """Return the state after one more update, which wrote these pairs (field, value)."""
        contents = dict(self.contents)
        for field, value in pairs:
            contents[field] = value
        words = tuple([field for field, value in pairs])
        tallies = {known: self.tallies[known] for known in self.tallies}
        tallies[words] = tallies.get(words, 0) + 1
        return State(contents, tallies)


class Copy:
    """A resource as it was when so many updates had been handled. It never changes."""

    def __init__(self, resource, moment, state):
        self.resource = resource
        self.moment = moment
        self.state = state

    def tag(self, cover):
        """Return the tag of this copy that covers these fields."""
        covered = Fields(cover)
        check_known(covered.words(), self.state.contents)
        return Tag(self.resource, covered, self.state.count_of(covered))

    def __contains__(self, x):
        # Asked first, as a list or a dict cannot be looked for in a dict.
        return isinstance(x, str) and x in self.state.contents

    def __getitem__(self, at):
        if at not in self:
            raise UnknownField(at)
        return self.state.contents[at]

    # Without this, Python would iterate by getting the items 0, 1 and so on.
    def __iter__(self):
        raise TypeError("a copy is not iterated over")


class Server:
    """A server of the resources of a schema."""

    def __init__(self, schema):
        self.schema = schema
        # A tuple (accepted, label, writes) for each update that was handled.
        self.updates = []
        # By resource, for those that were written.
        self.states = {}

    @property
    def handled(self):
        """The number of updates that the server has handled."""
        return len(self.updates)

    def read(self, resource):
        """Return a copy of the resource as it is now."""
        if not self.schema.is_resource(resource):
            raise BadResource(resource)
        place = tuple(resource)
        return Copy(place, self.handled, self.state_of(place))

    def latest(self, resource):
        """Return a copy of the resource as it is now; a server has no older ones."""
        return self.read(resource)

    def handle(self, draft):
        """Handle a draft and return the number of the update; raise Rejected if a tag is not current."""
        self.check_draft(draft)
        number = self.handled
        stale = [tag for tag in draft.tags() if not self.is_current(tag)]
        self.updates.append((not stale, draft.label, draft.writes()))
        if stale:
            raise Rejected(number, stale)
        for resource, pairs in pairs_by_resource(draft.writes()).items():
            self.states[resource] = self.state_of(resource).after(pairs)
        return number

    def log(self):
        """Return the list of the tuples (accepted, label, writes) of the updates that were handled."""
        return [(accepted, label, list(writes)) for accepted, label, writes in self.updates]

    def history(self):
        """Return the list of the labels of the updates that were handled."""
        labels = []
        for number, (accepted, label, writes) in enumerate(self.updates):
            if label is None:
                raise Unlabelled(number)
            labels.append(label)
        return labels

    def changes(self, resource):
        """Yield a tuple (number, pairs) for each accepted update that wrote the resource."""
        if not self.schema.is_resource(resource):
            return
        place = tuple(resource)
        for number, (accepted, label, writes) in enumerate(self.updates):
            pairs = pairs_by_resource(writes).get(place, [])
            if accepted and pairs:
                yield (number, pairs)

    def state_of(self, resource):
        """Return the state of a resource of the schema, given as a tuple."""
        if resource in self.states:
            return self.states[resource]
        fields = self.schema[resource[0]].fields()
        return State({word: 0 for word in fields.words()}, {})

    def is_current(self, tag):
        """Tell whether a new copy has just this tag."""
        return self.read(tag.resource).tag(tag.cover()) == tag

    def check_draft(self, draft):
        """Raise an error unless all tags and writes are of resources of the schema and of their fields."""
        for tag in draft.tags():
            self.check_fields(tag.resource, tag.cover().words())
        for resource, field, value in draft.writes():
            self.check_fields(resource, [field])

    def check_fields(self, resource, words):
        """Raise BadResource, or UnknownField for the first of the words that is not a field of the resource."""
        if not self.schema.is_resource(resource):
            raise BadResource(resource)
        check_known(words, self.schema[resource[0]].fields())
