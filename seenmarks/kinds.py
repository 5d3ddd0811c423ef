"""Kinds of resources, and schemas, which are lists of kinds."""

from seenmarks.checks import is_list, is_resource_pair, is_word
from seenmarks.errors import BadField, BadKind, BadWord, UnknownKind
from seenmarks.fields import Fields

MOST_FIELDS = 4
MOST_KINDS = 4


def check_kind_fields(fields):
    """Raise BadField unless this is a list of one to four different words."""
    if not is_list(fields) or len(fields) == 0:
        raise BadField(0)
    for index, word in enumerate(fields):
        if index >= MOST_FIELDS or not is_word(word) or word in fields[:index]:
            raise BadField(index)


def check_kinds(kinds):
    """Raise BadKind unless this is a list of one to four kinds with different names."""
    if not is_list(kinds) or len(kinds) == 0:
        raise BadKind(0)
    names = []
    for index, kind in enumerate(kinds):
        if index >= MOST_KINDS or not isinstance(kind, Kind) or kind.name in names:
            raise BadKind(index)
        names.append(kind.name)


class Kind:
    """A kind of resources with its fields."""

    def __init__(self, name, fields, *, single=False):
        if not is_word(name):
            raise BadWord(name)
        check_kind_fields(fields)
        self.name = name
        self.single = single
        self.field_set = Fields(fields)

    def fields(self):
        """Return the Fields object of the kind."""
        return self.field_set

    def __eq__(self, other):
        return (
            isinstance(other, Kind)
            and self.name == other.name
            and self.single == other.single
            and self.field_set == other.field_set
        )


class Schema:
    """A list of kinds with different names."""

    def __init__(self, kinds):
        check_kinds(kinds)
        self.kinds = tuple(kinds)

    def names(self):
        """Return the list of the names of the kinds, in the given order."""
        return [kind.name for kind in self.kinds]

    def is_resource(self, thing):
        """Tell whether a thing is a resource of a kind of this schema."""
        if not is_resource_pair(thing):
            return False
        name, number = thing
        return name in self and (number == 0 or not self[name].single)

    def __len__(self):
        return len(self.kinds)

    def __contains__(self, x):
        return x in self.names()

    def __getitem__(self, at):
        for kind in self.kinds:
            if kind.name == at:
                return kind
        raise UnknownKind(at)

    # Without this, Python would iterate by getting the items 0, 1 and so on.
    def __iter__(self):
        raise TypeError("a schema is not iterated over")

    def __eq__(self, other):
        return isinstance(other, Schema) and self.kinds == other.kinds
