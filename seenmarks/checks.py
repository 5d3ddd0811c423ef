"""What any object may be asked: whether it is a list, a word, an integer, a pair that names a resource."""

LONGEST_WORD = 8


def is_list(thing):
    """Tell whether a thing is accepted where a list is expected; a tuple is."""
    return isinstance(thing, (list, tuple))


def is_pair(thing):
    """Tell whether a thing is a list of two items."""
    return is_list(thing) and len(thing) == 2


def is_word(thing):
    """Tell whether a thing is a string of one to eight letters a to z."""
    if not isinstance(thing, str) or len(thing) > LONGEST_WORD:
        return False
    return thing.isascii() and thing.isalpha() and thing.islower()


def is_int(thing):
    """Tell whether a thing is an integer; True and False are none."""
    return isinstance(thing, int) and not isinstance(thing, bool)


def is_natural(thing):
    """Tell whether a thing is an integer from 0 on."""
    return is_int(thing) and thing >= 0


def is_resource_pair(thing):
    """Tell whether a thing is a pair of a word and an integer from 0 on, so a resource of some schema."""
    return is_pair(thing) and is_word(thing[0]) and is_natural(thing[1])
