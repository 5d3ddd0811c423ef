"""What any object may be asked: whether it is a list, a word, an integer from 0 on."""

LONGEST_WORD = 8


def is_list(thing):
    """Tell whether a thing is accepted where a list is expected; a tuple is."""
    return isinstance(thing, (list, tuple))


def is_word(thing):
    """Tell whether a thing is a string of one to eight letters a to z."""
    if not isinstance(thing, str) or len(thing) > LONGEST_WORD:
        return False
    return thing.isascii() and thing.isalpha() and thing.islower()


def is_natural(thing):
    """Tell whether a thing is an integer from 0 on; True and False are none."""
    return isinstance(thing, int) and not isinstance(thing, bool) and thing >= 0
