"""Objects that several tests pass."""

import itertools

from seenmarks.caches import Cache
from seenmarks.catalogs import Catalog
from seenmarks.drafts import Draft
from seenmarks.errors import BadField
from seenmarks.fields import Fields
from seenmarks.kinds import Kind, Schema
from seenmarks.servers import Server
from seenmarks.tags import Tag
from seenmarks.templates import Template


def account():
    return Kind("account", ["limit", "owner"])


def total():
    return Kind("total", ["sum"], single=True)


def bank():
    return Schema([account(), total()])


def shop():
    """A schema whose kinds have a field in common, and one with as many fields as a kind may have."""
    return Schema([Kind("item", ["price", "name", "stock", "color"]), Kind("order", ["price", "paid"]),
                   Kind("till", ["sum"], single=True)])


def tag():
    return Tag(("account", 3), ["limit", "owner"], 17)


def add():
    return Template("add", [("account", ["limit"], [], ["limit"])])


def move():
    """A template of two accounts and the total, each with another cover."""
    return Template("move", [("account", ["limit", "owner"], ["limit"], ["limit"]),
                             ("account", ["limit"], ["owner", "limit"], ["owner", "limit"]),
                             ("total", ["sum"], [], ["sum"])])


def bank_catalog():
    return Catalog(bank(), [add(), move()])


def package_objects():
    """Objects of the classes of the package, but for Fields, which is accepted where words are."""
    return [account(), bank(), BadField(0), tag(), Draft(), Server(bank()), Server(bank()).read(("account", 0)),
            Cache(Server(bank())), add(), bank_catalog()]


def no_lists():
    """Objects that are neither a list nor a tuple, and no Fields object."""
    return ["", "abc", "a", None, True, False, 0, 1, -1, {}, {"a": 1}, {0: "a"}, *package_objects()]


def no_words():
    """Objects that are no words."""
    return [None, True, False, 0, 1, -7, 10 ** 39, "", "ninewords", "a" * 9, "Limit", "liMit", "A",
            "li mit", " limit", "limit ", "limit\n", "\n", "a1", "1", "a-b", "a_b", "~", "a,b", "{", "`",
            [], ["a"], (), ("a",), {}, {"a": "a"}, [["a"]],
            Fields(["a"]), Fields([]), *package_objects()]


def no_integers():
    """Objects that are no integers."""
    return [None, True, False, "", "0", "1", "a", [], [0], (), (1,), {}, {0: 1}, Fields([]), *package_objects()]


def no_resource_pairs():
    """Objects that are not a pair of a word and an integer from 0 on."""
    wrong_lengths = [(), ("account",), (0,), ("account", 0, 0), ("account", 0, None), (("account", 0),)]
    wrong_names = [(name, 0) for name in no_words()]
    wrong_numbers = [("account", number) for number in [-1, -2, -10 ** 39, *no_integers()]]
    pairs = [*wrong_lengths, *wrong_names, *wrong_numbers, (0, "account"), (("account", 0), "limit")]
    return [*pairs, *[list(pair) for pair in pairs], *no_lists(), "account 0", {"account": 0}, Fields(["account"])]


def any_objects():
    """Objects of all kinds, words and resources among them."""
    return no_words() + ["a", "limit", "account", "abcdefgh", ["limit", "owner"], ("limit", "owner"),
                         ("account", 0), ["account", 0], [("account", [0, {"a": None}])], (None, True),
                         {"limit": True, 1: [2]}, total(), [account()], (bank(),)]


def draft_of(writes, tags=(), label=None):
    draft = Draft()
    draft.label = label
    for resource, field, value in writes:
        draft[resource, field] = value
    for tag in tags:
        draft.require(tag)
    return draft


def covers_of(words):
    """All lists of these words."""
    return [list(some) for many in range(len(words) + 1) for some in itertools.combinations(words, many)]


def deep_lists(thing):
    """The thing with a list for each tuple in it, at every depth."""
    return [deep_lists(item) for item in thing] if isinstance(thing, (list, tuple)) else thing


def deep_tuples(thing):
    """The thing with a tuple for each list in it, at every depth."""
    return tuple(deep_tuples(item) for item in thing) if isinstance(thing, (list, tuple)) else thing


def form_of(thing):
    """What a thing consists of: for lists and tuples this tells them apart, at every depth."""
    if isinstance(thing, (list, tuple)):
        return (type(thing).__name__, *[form_of(item) for item in thing])
    return (type(thing).__name__, thing)


def spoil(thing):
    """Change all lists in the thing, at every depth."""
    if isinstance(thing, (list, tuple)):
        for item in thing:
            spoil(item)
    if isinstance(thing, list):
        thing.append("spoilt")
        thing.reverse()
