"""Sets of fields."""

from seenmarks.checks import is_list, is_word
from seenmarks.errors import BadField


def ascending_words(words):
    """Return the words of a field set, ascending, each once."""
    if isinstance(words, Fields):
        return words.words()
    if not is_list(words):
        raise BadField(0)
    for index, word in enumerate(words):
        if not is_word(word):
            raise BadField(index)
    return sorted(set(words))


def is_field_set(thing):
    """Tell whether a thing is a Fields object or a list of words."""
    return isinstance(thing, Fields) or (is_list(thing) and all([is_word(word) for word in thing]))


class Fields:
    """A set of fields, which never changes."""

    def __init__(self, words):
        # A dict, so that looking for a word takes no longer among many words; it keeps their order.
        self.held = {word: True for word in ascending_words(words)}

    def words(self):
        """Return the list of the words, ascending."""
        return list(self.held)

    def meets(self, other):
        """Tell whether some word is in this set and in the field set `other`."""
        theirs = Fields(other)
        return any([word in theirs for word in self.held])

    def within(self, other):
        """Tell whether all words of this set are in the field set `other`."""
        theirs = Fields(other)
        return all([word in theirs for word in self.held])

    def __len__(self):
        return len(self.held)

    def __bool__(self):
        return bool(self.held)

    def __contains__(self, x):
        # Asked first, as a list or a dict cannot be looked for in a dict.
        return isinstance(x, str) and x in self.held

    def __eq__(self, other):
        return isinstance(other, Fields) and self.held == other.held

    def __or__(self, other):
        return Fields(self.words() + Fields(other).words())

    def __and__(self, other):
        theirs = Fields(other)
        return Fields([word for word in self.held if word in theirs])

    def __sub__(self, other):
        theirs = Fields(other)
        return Fields([word for word in self.held if word not in theirs])

    def __xor__(self, other):
        theirs = Fields(other)
        return (self - theirs) | (theirs - self)

    def __ror__(self, other):
        return Fields(other) | self

    def __rand__(self, other):
        return Fields(other) & self

    def __rsub__(self, other):
        return Fields(other) - self

    def __rxor__(self, other):
        return Fields(other) ^ self
