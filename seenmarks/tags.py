"""Tags, which tell what was read."""

from seenmarks.checks import is_natural, is_resource_pair, is_word
from seenmarks.errors import BadCount, BadResource, BadText
from seenmarks.fields import Fields
from seenmarks.texts import is_number_text, is_words_text, words_of_text, words_text

PARTS = 4


class Tag:
    """A tag of a resource: how many accepted updates had written a field of the cover. It never changes."""

    def __init__(self, resource, cover, count):
        if not is_resource_pair(resource):
            raise BadResource(resource)
        covered = Fields(cover)
        if not is_natural(count):
            raise BadCount(count)
        self.resource = tuple(resource)
        self.count = count
        self.covered = covered

    def cover(self):
        """Return the Fields object of the fields that the tag covers."""
        return self.covered

    def text(self):
        """Return the tag as a text, such as `account 3 limit,owner 17`."""
        name, number = self.resource
        return f"{name} {number} {words_text(self.covered.words())} {self.count}"

    @staticmethod
    def of_text(text):
        """Return the tag with this text."""
        parts = text.split(" ") if isinstance(text, str) else []
        if len(parts) != PARTS:
            raise BadText(1)
        name, number, cover, count = parts
        if not (is_word(name) and is_number_text(number) and is_words_text(cover) and is_number_text(count)):
            raise BadText(1)
        return Tag((name, int(number)), words_of_text(cover), int(count))

    def __eq__(self, other):
        return (
            isinstance(other, Tag)
            and self.resource == other.resource
            and self.count == other.count
            and self.covered == other.covered
        )
