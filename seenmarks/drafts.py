"""Drafts, which are updates that are being written."""

from seenmarks.checks import is_int, is_pair, is_resource_pair, is_word
from seenmarks.errors import BadResource, BadTag, BadValue, BadWord, NoWrite
from seenmarks.tags import Tag


class Draft:
    """An update that is being written: its tags and its writes."""

    def __init__(self):
        self.label = None
        self.required = []
        self.written = {}

    def require(self, tag):
        """Add a tag."""
        if not isinstance(tag, Tag):
            raise BadTag(tag)
        self.required.append(tag)

    def drop(self, resource, field):
        """Remove a write."""
        if (resource, field) not in self:
            raise NoWrite(resource, field)
        del self.written[tuple(resource), field]

    def tags(self):
        """Return the list of the tags, in the order in which they were added."""
        return list(self.required)

    def writes(self):
        """Return the list of the writes, tuples (resource, field, value), ascending."""
        return sorted([(resource, field, value) for (resource, field), value in self.written.items()])

    def __len__(self):
        return len(self.written)

    def __contains__(self, x):
        if not is_pair(x):
            return False
        resource, field = x
        # Asked first, as (.., True) would be found where (.., 1) is, and a list cannot be looked for in a dict.
        if not is_resource_pair(resource) or not is_word(field):
            return False
        return (tuple(resource), field) in self.written

    def __getitem__(self, at):
        resource, field = at
        if (resource, field) not in self:
            raise NoWrite(resource, field)
        return self.written[tuple(resource), field]

    def __setitem__(self, at, worth):
        resource, field = at
        if not is_resource_pair(resource):
            raise BadResource(resource)
        if not is_word(field):
            raise BadWord(field)
        if not is_int(worth):
            raise BadValue(worth)
        self.written[tuple(resource), field] = worth

    # Without this, Python would iterate by getting the items 0, 1 and so on.
    def __iter__(self):
        raise TypeError("a draft is not iterated over")
