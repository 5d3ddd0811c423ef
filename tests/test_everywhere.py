"""What the document promises over the whole program: its points 1 and 3, at each function and method."""

import copy
import inspect
import unittest

from seenmarks.caches import Cache
from seenmarks.catalogs import Catalog
from seenmarks.covers import parted, smallest_cover, too_small, with_smallest_covers
from seenmarks.drafts import Draft
from seenmarks.fields import Fields
from seenmarks.histories import dependencies, history_text, read_history, reads, replay
from seenmarks.kinds import Kind, Schema
from seenmarks.orders import is_cycle, is_order, serial
from seenmarks.pivots import is_closed, is_pivot, judge, needless, pivot, pivots, unnoticed
from seenmarks.servers import Copy, Server
from seenmarks.tags import Tag
from seenmarks.templates import Template, attempt
from tests.samples import (account, add, bank, bank_catalog, deep_lists, deep_tuples, draft_of, move, spoil, tag, total)

A0, A1, TOTAL = ("account", 0), ("account", 1), ("total", 0)
PLACES = [["account", 0], ["account", 1], ["total", 0]]
HISTORY = [["add", [["account", 0]], [0]], ["add", [["account", 0]], [0]], ["move", PLACES, [2, 0, 1]]]
CYCLE = [[0, 1, "miss", ["account", 0], "limit"], [1, 0, "miss", ["account", 0], "limit"]]
VARIABLE = ["account", ["limit", "owner"], ["owner"], ["limit"]]


def server():
    """A server that has handled two updates."""
    made = Server(bank())
    made.handle(add()([made.read(A0)], [5]))
    made.handle(move()([made.read(place) for place in [A0, A1, TOTAL]], [6, 7, 8, 9]))
    return made


def stored(source=None):
    """A cache that has stored two copies."""
    cache = Cache(source or server())
    cache.read(A0)
    cache.read(TOTAL)
    return cache


def draft():
    return draft_of([(A0, "limit", 3), (TOTAL, "sum", 4)], [tag()])


def copies(many):
    made = server()
    return [made.read(place) for place in [A0, A1, TOTAL][:many]]


def compute(given):
    return [given[0]["limit"], 1, 2, 3]


# By a name, what makes the function or method anew, and its arguments.
CALLS = {
    "Fields": (lambda: Fields, {"words": ["b", "a", "b"]}),
    "Fields.words": (lambda: Fields(["b", "a"]).words, {}),
    "Fields.meets": (lambda: Fields(["b", "a"]).meets, {"other": ["c", "a"]}),
    "Fields.within": (lambda: Fields(["b", "a"]).within, {"other": ["c", "a", "b"]}),
    "Kind": (lambda: Kind, {"name": "account", "fields": ["b", "a"], "single": True}),
    "Kind.fields": (lambda: account().fields, {}),
    "Schema": (lambda: Schema, {"kinds": [account(), total()]}),
    "Schema.names": (lambda: bank().names, {}),
    "Schema.is_resource": (lambda: bank().is_resource, {"thing": ["account", 3]}),
    "Tag": (lambda: Tag, {"resource": ["account", 3], "cover": ["b", "a"], "count": 5}),
    "Tag.cover": (lambda: tag().cover, {}),
    "Tag.text": (lambda: tag().text, {}),
    "Tag.of_text": (lambda: Tag.of_text, {"text": "account 3 limit,owner 17"}),
    "Draft": (lambda: Draft, {}),
    "Draft.require": (lambda: draft().require, {"tag": tag()}),
    "Draft.drop": (lambda: draft().drop, {"resource": ["account", 0], "field": "limit"}),
    "Draft.tags": (lambda: draft().tags, {}),
    "Draft.writes": (lambda: draft().writes, {}),
    "Copy.tag": (lambda: server().read(A0).tag, {"cover": ["owner", "limit"]}),
    "Server": (lambda: Server, {"schema": bank()}),
    "Server.read": (lambda: server().read, {"resource": ["account", 0]}),
    "Server.latest": (lambda: server().latest, {"resource": ["account", 0]}),
    "Server.handle": (lambda: server().handle, {"draft": draft_of([(A0, "limit", 3)])}),
    "Server.log": (lambda: server().log, {}),
    "Server.history": (lambda: server().history, {}),
    "Server.changes": (lambda: server().changes, {"resource": ["account", 0]}),
    "Cache": (lambda: Cache, {"source": server(), "drops": False}),
    "Cache.read": (lambda: stored().read, {"resource": ["account", 0]}),
    "Cache.latest": (lambda: stored().latest, {"resource": ["account", 1]}),
    "Cache.stored": (lambda: stored().stored, {}),
    "Cache.forget": (lambda: stored().forget, {"resource": ["account", 0]}),
    "Cache.handle": (lambda: stored().handle, {"draft": draft_of([(A0, "limit", 3)])}),
    "Cache.offline": (lambda: stored().offline, {"work": lambda: [5]}),
    "Cache.is_offline": (lambda: stored().is_offline, {}),
    "Template": (lambda: Template, {"name": "move", "variables": [VARIABLE, ["total", [], [], ["sum"]]]}),
    "Template.variables": (lambda: move().variables, {}),
    "Template.__call__": (lambda: move(), {"copies": copies(3), "values": [1, 2, 3, 4]}),
    "attempt": (lambda: attempt, {"source": None, "template": move(), "resources": PLACES, "compute": compute,
                                  "tries": 2}),
    "Catalog": (lambda: Catalog, {"schema": bank(), "templates": [move(), add()]}),
    "Catalog.names": (lambda: bank_catalog().names, {}),
    "Catalog.with_cover": (lambda: bank_catalog().with_cover, {"name": "move", "variable": 1, "cover": ["limit"]}),
    "Catalog.text": (lambda: bank_catalog().text, {}),
    "Catalog.of_text": (lambda: Catalog.of_text, {"text": bank_catalog().text()}),
    "replay": (lambda: replay, {"catalog": bank_catalog(), "history": HISTORY}),
    "reads": (lambda: reads, {"catalog": bank_catalog(), "history": HISTORY}),
    "dependencies": (lambda: dependencies, {"catalog": bank_catalog(), "history": HISTORY}),
    "history_text": (lambda: history_text, {"history": HISTORY}),
    "read_history": (lambda: read_history, {"text": "move account/3@0 account/7@2\n"}),
    "serial": (lambda: serial, {"catalog": bank_catalog(), "history": HISTORY}),
    "serial of one step": (lambda: serial, {"catalog": bank_catalog(), "history": HISTORY[:1]}),
    "is_order": (lambda: is_order, {"catalog": bank_catalog(), "history": HISTORY[:1], "order": [0]}),
    "is_cycle": (lambda: is_cycle, {"catalog": bank_catalog(), "history": HISTORY, "cycle": CYCLE}),
    "pivot": (lambda: pivot, {"catalog": bank_catalog(), "name": "add", "variable": 0}),
    "pivot at another read": (lambda: pivot, {"catalog": bank_catalog(), "name": "move", "variable": 1}),
    "is_pivot": (lambda: is_pivot, {"catalog": bank_catalog(), "name": "add", "variable": 0, "history": HISTORY[:2]}),
    "is_closed": (lambda: is_closed, {"catalog": bank_catalog(), "name": "move", "variable": 1,
                                      "nodes": [["add", 0, True]]}),
    "pivots": (lambda: pivots, {"catalog": bank_catalog()}),
    "judge": (lambda: judge, {"catalog": bank_catalog()}),
    "unnoticed": (lambda: unnoticed, {"catalog": bank_catalog(), "name": "add", "variable": 0}),
    "needless": (lambda: needless, {"catalog": bank_catalog(), "name": "add", "variable": 0}),
    "smallest_cover": (lambda: smallest_cover, {"catalog": bank_catalog(), "name": "add", "variable": 0}),
    "too_small": (lambda: too_small, {"catalog": bank_catalog(), "name": "add", "variable": 0}),
    "with_smallest_covers": (lambda: with_smallest_covers, {"catalog": bank_catalog()}),
    "parted": (lambda: parted, {"catalog": bank_catalog(), "name": "move", "variable": 1, "one": ["limit"],
                                "other": []}),
}


def new_arguments(name, form=lambda thing: thing):
    """The arguments of a call, with new lists."""
    arguments = {}
    for key, value in CALLS[name][1].items():
        arguments[key] = form(copy.deepcopy(value)) if isinstance(value, list) else value
    if name == "attempt":
        arguments["source"] = stored()
    if name in ["Server.handle", "Cache.handle"]:
        arguments["draft"] = draft_of([(A0, "limit", 3)])
    return arguments


def told(thing):
    """What a result tells, in a form that is easily compared: also whether something is a list or a tuple."""
    if inspect.isgenerator(thing):
        return ["yielded", *map(told, thing)]
    if isinstance(thing, (list, tuple)):
        return [type(thing).__name__, *map(told, thing)]
    if isinstance(thing, Copy):
        words = ["sum"] if thing.resource == TOTAL else ["limit", "owner"]
        return ["copy", told(thing.resource), thing.moment, [thing[word] for word in words]]
    if isinstance(thing, Draft):
        return ["draft", told(thing.label), told(thing.writes()), [one.text() for one in thing.tags()]]
    if isinstance(thing, Server):
        return ["server", thing.handled, thing.schema.names()]
    if isinstance(thing, Cache):
        return ["cache", thing.stored(), thing.drops, thing.is_offline()]
    if isinstance(thing, Fields):
        return ["fields", thing.words()]
    if isinstance(thing, Kind):
        return ["kind", thing.name, thing.single, thing.fields().words()]
    if isinstance(thing, Schema):
        return ["schema", *[told(thing[name]) for name in thing.names()]]
    if isinstance(thing, Tag):
        return ["tag", thing.text(), told(thing.resource)]
    if isinstance(thing, Template):
        return ["template", thing.name, told(thing.variables())]
    if isinstance(thing, Catalog):
        return ["catalog", thing.text()]
    return [type(thing).__name__, thing]


def by_position(name, arguments):
    """Call with all arguments by position, but for those behind a star."""
    function = CALLS[name][0]()
    named = {"single", "drops", "tries"} & set(arguments)
    return function(*[value for key, value in arguments.items() if key not in named],
                    **{key: arguments[key] for key in named})


class Calls(unittest.TestCase):
    def test_arguments_by_position_and_by_name_in_another_order(self):
        for name in CALLS:
            expected = told(by_position(name, new_arguments(name)))
            arguments = new_arguments(name)
            for order in [list(arguments), list(arguments)[::-1]]:
                arguments = new_arguments(name)
                result = CALLS[name][0]()(**{key: arguments[key] for key in order})
                self.assertEqual(told(result), expected, name)

    def test_lists_and_tuples(self):
        for name in CALLS:
            expected = told(by_position(name, new_arguments(name)))
            for form in [deep_lists, deep_tuples, list, tuple]:
                self.assertEqual(told(by_position(name, new_arguments(name, form))), expected, name)

    def test_arguments_are_not_changed(self):
        for name in CALLS:
            arguments, untouched = new_arguments(name), new_arguments(name)
            by_position(name, arguments)
            for key in arguments:
                if key != "source":
                    self.assertEqual(told(arguments[key]), told(untouched[key]), (name, key))

    def test_arguments_that_are_changed_afterwards(self):
        for name in CALLS:
            expected = told(by_position(name, new_arguments(name)))
            arguments = new_arguments(name)
            result = by_position(name, arguments)
            if not inspect.isgenerator(result):
                for value in arguments.values():
                    spoil(value)
            self.assertEqual(told(result), expected, name)

    def test_results_that_are_changed_afterwards(self):
        for name in CALLS:
            function, arguments = CALLS[name][0](), new_arguments(name)
            result = function(**arguments)
            expected = told(result)
            if isinstance(result, (list, tuple)) and name not in ["attempt", "Cache.offline"]:
                spoil(result)
                self.assertEqual(told(function(**arguments)), expected, name)

    def test_lists_that_objects_return_are_new(self):
        for made in [Fields(["a"]), account(), bank(), tag(), draft(), server(), stored(), move(), bank_catalog()]:
            for method in ["words", "names", "tags", "writes", "log", "history", "stored", "variables"]:
                if hasattr(made, method):
                    expected = told(getattr(made, method)())
                    spoil(getattr(made, method)())
                    self.assertEqual(told(getattr(made, method)()), expected)

    def test_bools(self):
        for name in ["Fields.meets", "Fields.within", "Schema.is_resource", "Cache.is_offline", "is_order", "is_cycle",
                     "is_pivot", "is_closed"]:
            self.assertIs(type(by_position(name, new_arguments(name))), bool, name)

    def test_no_result(self):
        for name in ["Draft.require", "Draft.drop", "Cache.forget"]:
            self.assertIsNone(by_position(name, new_arguments(name)), name)


class Overview(unittest.TestCase):
    """Point 1, in one run."""

    def test_older_copies_in_a_cache(self):
        at, catalog = Server(bank()), bank_catalog()
        cache = Cache(at)
        old = cache.read(A0)
        at.handle(catalog["add"]([at.read(A0)], [5]))
        self.assertEqual(attempt(cache, catalog["move"], [A0, A1, TOTAL], compute), (2, 2))
        self.assertEqual((old["limit"], at.read(A0)["limit"], cache.stored()), (0, 5, []))
        history = at.history()
        self.assertEqual(replay(catalog, history), [True, False, True])
        self.assertEqual(serial(catalog, history), ("order", [0, 2]))
        self.assertEqual(judge(catalog)[0], "cycle")
        self.assertEqual(judge(with_smallest_covers(catalog))[0], "serial")


if __name__ == "__main__":
    unittest.main()
