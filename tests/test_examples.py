"""The examples 43 to 45 of the document as they stand, its point 2 over whole runs, and the limits of point 5."""

import random
import time
import unittest

from seenmarks.caches import Cache
from seenmarks.catalogs import Catalog
from seenmarks.covers import parted, smallest_cover, too_small, with_smallest_covers
from seenmarks.errors import BadCatalog, Rejected
from seenmarks.histories import dependencies, history_text, read_history, reads, replay
from seenmarks.kinds import Kind, Schema
from seenmarks.orders import is_cycle, is_order, serial
from seenmarks.pivots import is_closed, is_pivot, judge, needless, pivot, pivots, unnoticed
from seenmarks.servers import Server
from seenmarks.templates import Template, attempt
from tests import models

ACCOUNT, TOTAL = ("account", 0), ("total", 0)


def schema():
    return Schema([Kind("account", ["limit", "owner"]), Kind("total", ["sum"], single=True)])


class Example43(unittest.TestCase):
    history = [("add", [("account", 0)], [0]), ("add", [("account", 0)], [0])]

    def setUp(self):
        self.catalog = Catalog(schema(), [Template("add", [("account", ["limit"], [], ["limit"])])])

    def test_no_serial_order(self):
        self.assertEqual(replay(self.catalog, self.history), [True, True])
        self.assertEqual(dependencies(self.catalog, self.history),
                         [(0, 1, "miss", ACCOUNT, "limit"), (0, 1, "write", ACCOUNT, "limit"),
                          (1, 0, "miss", ACCOUNT, "limit")])
        word, cycle = serial(self.catalog, self.history)
        self.assertEqual((word, len(cycle)), ("cycle", 2))
        self.assertIs(is_cycle(self.catalog, self.history, cycle), True)
        for order in [[0, 1], [1, 0]]:
            self.assertIs(is_order(self.catalog, self.history, order), False)

    def test_a_cycle_pivots_at_the_read_of_add(self):
        self.assertEqual(pivots(self.catalog), [("add", 0)])
        self.assertIs(is_pivot(self.catalog, "add", 0, self.history), True)
        self.assertEqual(smallest_cover(self.catalog, "add", 0), ["limit"])

    def test_with_the_smallest_cover_the_second_update_is_rejected(self):
        self.assertEqual(replay(with_smallest_covers(self.catalog), self.history), [True, False])

    def test_at_a_server(self):
        for catalog, accepted in [(self.catalog, True), (with_smallest_covers(self.catalog), False)]:
            server = Server(catalog.schema)
            copies = [Cache(server).read(ACCOUNT), Cache(server).read(ACCOUNT)]
            server.handle(catalog["add"](copies[:1], [5]))
            if accepted:
                server.handle(catalog["add"](copies[1:], [7]))
            else:
                with self.assertRaises(Rejected):
                    server.handle(catalog["add"](copies[1:], [7]))
            self.assertEqual(server.read(ACCOUNT)["limit"], 7 if accepted else 5)
            self.assertEqual([(name, list(resources), list(moments)) for name, resources, moments in server.history()],
                             self.history)


class Example44(unittest.TestCase):
    def test_a_cover_that_is_not_read(self):
        with self.assertRaises(BadCatalog) as context:
            Catalog(schema(), [Template("keep", [("account", ["limit"], ["owner"], ["owner"])])])
        self.assertEqual((context.exception.index, context.exception.reason), (0, "cover"))

    def test_all_fields_of_the_kind(self):
        catalog = Catalog(schema(), [
            Template("keep", [("account", ["limit"], ["limit", "owner"], ["owner"])]),
            Template("both", [("account", [], [], ["owner", "limit"])]),
            Template("none", [("account", [], [], []), ("total", [], [], ["sum"])]),
            Template("name", [("total", [], [], []), ("account", [], [], ["owner"]), ("account", [], [], ["limit"])]),
        ])
        self.assertEqual(needless(catalog, "keep", 0), [("keep", 0), ("name", 1)])
        self.assertEqual(unnoticed(catalog, "keep", 0), [])


class Example45(unittest.TestCase):
    history = [("raise", [("account", 0)], [0]), ("count", [("account", 0), ("total", 0)], [1, 1]),
               ("count", [("account", 0), ("total", 0)], [0, 2])]

    def setUp(self):
        self.catalog = Catalog(schema(), [
            Template("count", [("account", ["limit"], [], []), ("total", ["sum"], [], ["sum"])]),
            Template("raise", [("account", [], [], ["limit"])]),
        ])

    def test_two_updates_of_count_have_a_cycle(self):
        word, history = pivot(self.catalog, "count", 1)
        self.assertEqual((word, [step[0] for step in history]), ("cycle", ["count", "count"]))

    def test_three_updates(self):
        word, history = pivot(self.catalog, "count", 0)
        self.assertEqual((word, len(history)), ("cycle", 3))
        self.assertEqual([step[0] for step in history], ["raise", "count", "count"])
        self.assertIs(is_pivot(self.catalog, "count", 0, self.history), True)
        self.assertEqual(serial(self.catalog, self.history)[0], "cycle")
        self.assertEqual(reads(self.catalog, self.history),
                         [[], [(0, "limit", 0), (1, "sum", None)], [(0, "limit", None), (1, "sum", 1)]])

    def test_smallest_covers(self):
        self.assertEqual([smallest_cover(self.catalog, *read) for read in [("count", 0), ("count", 1), ("raise", 0)]],
                         [["limit"], ["sum"], []])
        word, closed = judge(with_smallest_covers(self.catalog))
        self.assertEqual((word, [row[:2] for row in closed]), ("serial", [("count", 0), ("count", 1), ("raise", 0)]))


class Promise(unittest.TestCase):
    """Point 2, at servers: with the smallest covers each run has a serial order, and each smaller tag breaks one."""

    def run_clients(self, source, catalog, many):
        server = Server(catalog.schema)
        caches = [Cache(server, drops=source.random() < 0.5) for turn in range(3)]
        for name, resources, moments in models.some_history(source, catalog, many, 1):
            total = sum(len(writes) for kind, read, cover, writes in catalog[name].variables())
            try:
                attempt(source.choice(caches), catalog[name], resources, lambda copies: [1] * total, tries=2)
            except Rejected:
                pass
        return server.history()

    def test_every_run_has_a_serial_order(self):
        source, words = random.Random(77), []
        for turn in range(60):
            catalog = models.some_catalog(source, 4, 3, "ab", 0.6, 0.5)
            for some in [catalog, with_smallest_covers(catalog)]:
                history = self.run_clients(source, some, 15)
                words.append((some is catalog, serial(some, history)[0]))
                self.assertEqual(read_history(history_text(history)),
                                 [(name, list(resources), list(moments)) for name, resources, moments in history])
        self.assertNotIn((False, "cycle"), words)
        self.assertIn((True, "cycle"), words)


class Limits(unittest.TestCase):
    """The largest histories and catalogs, with answers in a few seconds."""

    def setUp(self):
        self.begun = time.perf_counter()

    def tearDown(self):
        self.assertLess(time.perf_counter() - self.begun, 8)

    def largest(self, seed, singles):
        """Six templates of three variables each, over four kinds of four fields each."""
        source, fields = random.Random(seed), ["aaaaaaaa", "bbbbbbbb", "cccccccc", "dddddddd"]
        kinds = [Kind(name * 8, fields, single=name in singles) for name in "klmn"]
        templates = []
        for name in "stuvwx":
            variables = []
            for kind in source.sample(kinds, 3) if singles else source.choices(kinds, k=3):
                read = models.some_fields(source, fields, source.choice([0.5, 1]))
                variables.append((kind.name, read, models.some_fields(source, read, 0.5),
                                  models.some_fields(source, fields, source.choice([0.2, 0.6]))))
            templates.append(Template(name * 8, variables))
        return Catalog(Schema(kinds), templates)

    def check_catalog(self, catalog):
        changed = with_smallest_covers(catalog)
        self.assertEqual(judge(changed)[0], "serial")
        self.assertEqual(pivots(changed), [])
        for name, variable, nodes in judge(changed)[1]:
            self.assertIs(is_closed(changed, name, variable, nodes), True)
        for name, variable in models.all_variables(catalog):
            for cover, history in too_small(catalog, name, variable):
                self.assertIs(is_pivot(catalog.with_cover(name, variable, cover), name, variable, history), True)
            parted(catalog, name, variable, [], catalog[name].variables()[variable][1])
        self.assertTrue(Catalog.of_text(catalog.text()) == catalog)

    def test_catalogs(self):
        for seed, singles in [(1, ""), (2, "k"), (3, "klmn"), (4, "")]:
            self.check_catalog(self.largest(seed, singles))

    def test_everything_reads_and_writes_all_fields(self):
        fields = ["a", "b", "c", "d"]
        kinds = [Kind(name, fields) for name in "klmn"]
        for cover in [[], fields]:
            templates = [Template(name, [("k", fields, cover, fields)] * 3) for name in "stuvwx"]
            self.check_catalog(Catalog(Schema(kinds), templates))

    def test_histories_of_sixty_steps(self):
        source = random.Random(9)
        for seed in range(4):
            catalog = self.largest(seed, "")
            for covers in [False, True]:
                some = with_smallest_covers(catalog) if covers else catalog
                history = models.some_history(source, some, 60, 1)
                self.assertEqual(replay(some, history), models.replay(some, history))
                self.assertEqual(len(reads(some, history)), 60)
                word, told = serial(some, history)
                self.assertIs((is_order if word == "order" else is_cycle)(some, history, told), True)
                if covers:
                    self.assertEqual(word, "order")
                self.assertEqual(read_history(history_text(history)), history)

    def test_sixty_accepted_updates_of_the_same_resources(self):
        fields = ["a", "b", "c", "d"]
        catalog = Catalog(Schema([Kind("k", fields)]), [Template("f", [("k", fields, [], fields)] * 3)])
        history = [("f", [("k", 0), ("k", 10 ** 9 - 1), ("k", 7)], [0, index, index // 2]) for index in range(60)]
        rows = dependencies(catalog, history)
        self.assertEqual(len(rows), 3 * 4 * (60 * 59 // 2 + 60 * 59))
        word, cycle = serial(catalog, history)
        self.assertEqual((word, len(cycle)), ("cycle", 2))
        self.assertIs(is_cycle(catalog, history, cycle), True)


if __name__ == "__main__":
    unittest.main()
