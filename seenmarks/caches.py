"""Caches, which keep copies in front of a server or of another cache."""

from seenmarks.checks import is_resource_pair
from seenmarks.errors import BadFlag, Offline


class Cache:
    """A cache in front of a source, which is a server or another cache."""

    def __init__(self, source, *, drops=True):
        if not isinstance(drops, bool):
            raise BadFlag(drops)
        self.source = source
        self.drops = drops
        # By resource, the copies that are stored.
        self.copies = {}
        self.cut_off = False

    def read(self, resource):
        """Return the stored copy of the resource; if there is none, read it at the source and store it."""
        if self.has_copy(resource):
            return self.copies[tuple(resource)]
        self.check_online()
        return self.store(self.source.read(resource))

    def latest(self, resource):
        """Return the latest copy that the source returns, and store it."""
        self.check_online()
        return self.store(self.source.latest(resource))

    def stored(self):
        """Return the list of the resources whose copies are stored, ascending."""
        return sorted(list(self.copies))

    def forget(self, resource):
        """Forget the stored copy of the resource, if there is one."""
        if self.has_copy(resource):
            del self.copies[tuple(resource)]

    def handle(self, draft):
        """Pass a draft to the source, return the number of the update, and forget what it wrote."""
        self.check_online()
        number = self.source.handle(draft)
        if self.drops:
            for resource, field, value in draft.writes():
                self.forget(resource)
        return number

    def offline(self, work, *things):
        """Return what `work(*things)` returns; until it has ended the cache is offline."""
        # It may be offline already, as such calls may be nested.
        before = self.cut_off
        self.cut_off = True
        try:
            return work(*things)
        finally:
            self.cut_off = before

    def is_offline(self):
        """Tell whether the cache is offline."""
        return self.cut_off

    def has_copy(self, resource):
        """Tell of any object whether it is a resource whose copy is stored."""
        # Asked first, as (.., True) would be found where (.., 1) is, and a list cannot be looked for in a dict.
        return is_resource_pair(resource) and tuple(resource) in self.copies

    def store(self, copy):
        """Store a copy and return it."""
        self.copies[copy.resource] = copy
        return copy

    def check_online(self):
        """Raise Offline if the cache is offline."""
        if self.cut_off:
            raise Offline()
