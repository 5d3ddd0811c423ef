"""What the texts consist of: numbers, and lists of words."""

from seenmarks.checks import is_word

NO_WORDS = "-"


def is_number_text(text):
    """Tell whether a text is an integer from 0 on without leading zeros."""
    if not (text.isascii() and text.isdigit()):
        return False
    return text == "0" or not text.startswith("0")


def words_text(words):
    """Return ascending words as a text."""
    return ",".join(words) or NO_WORDS


def words_of_text(text):
    """Return the words of a text that `is_words_text`."""
    return [] if text == NO_WORDS else text.split(",")


def is_words_text(text):
    """Tell whether a text is one that `words_text` returns: the words ascend, and none occurs twice."""
    words = words_of_text(text)
    return all([is_word(word) for word in words]) and words == sorted(set(words))


def split_lines(text):
    """Return the list of the lines that end with a line feed, and what stands behind the last line feed."""
    *lines, rest = text.split("\n")
    return lines, rest
