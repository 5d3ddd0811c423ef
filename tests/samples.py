"""Objects that several tests pass."""

from seenmarks.errors import BadField
from seenmarks.fields import Fields
from seenmarks.kinds import Kind, Schema


def account():
    return Kind("account", ["limit", "owner"])


def total():
    return Kind("total", ["sum"], single=True)


def bank():
    return Schema([account(), total()])


def no_lists():
    """Objects that are neither a list nor a tuple, and no Fields object."""
    return ["", "abc", "a", None, True, False, 0, 1, -1, {}, {"a": 1}, {0: "a"},
            account(), bank(), BadField(0)]


def no_words():
    """Objects that are no words."""
    return [None, True, False, 0, 1, -7, 10 ** 39, "", "ninewords", "a" * 9, "Limit", "liMit", "A",
            "li mit", " limit", "limit ", "limit\n", "\n", "a1", "1", "a-b", "a_b", "~", "a,b", "{", "`",
            [], ["a"], (), ("a",), {}, {"a": "a"}, [["a"]],
            Fields(["a"]), Fields([]), account(), bank(), BadField(0)]


def any_objects():
    """Objects of all kinds, words and resources among them."""
    return no_words() + ["a", "limit", "account", "abcdefgh", ["limit", "owner"], ("limit", "owner"),
                         ("account", 0), ["account", 0], [("account", [0, {"a": None}])], (None, True),
                         {"limit": True, 1: [2]}, total(), [account()], (bank(),)]
