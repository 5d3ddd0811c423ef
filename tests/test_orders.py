"""Serial orders and cycles: points 30 and 31 of the document, and 3 to 5 and 46 as far as they concern them."""

import itertools
import random
import unittest

from seenmarks.caches import Cache
from seenmarks.catalogs import Catalog
from seenmarks.drafts import Draft
from seenmarks.fields import Fields
from seenmarks.histories import dependencies, reads, replay
from seenmarks.kinds import Kind, Schema
from seenmarks.orders import is_cycle, is_order, serial
from seenmarks.servers import Server
from seenmarks.templates import Template
from tests import models
from tests.samples import any_objects, bank_catalog, deep_lists, deep_tuples, form_of, no_integers, no_lists, spoil
from tests.test_histories import HISTORY

A0, A1, A2, TOTAL = ("account", 0), ("account", 1), ("account", 2), ("total", 0)


def items():
    """A catalog of items: `see` reads, `put` writes, `copy` reads one and writes another; nothing is covered."""
    schema = Schema([Kind("item", ["price"])])
    return Catalog(schema, [Template("see", [("item", ["price"], [], [])]),
                            Template("put", [("item", [], [], ["price"])]),
                            Template("copy", [("item", ["price"], [], []), ("item", [], [], ["price"])])])


def item(number):
    return ("item", number)


class OrderCase(unittest.TestCase):
    def check_serial(self, catalog, history):
        """What is returned is the least order, or a shortest cycle; tell its word."""
        result = serial(catalog, history)
        rows = models.dependencies(catalog, history)
        self.assertIs(type(result), tuple)
        word, told = result
        if word == "order":
            self.assertEqual(form_of(told), form_of(models.orders(models.replay(catalog, history), rows)[0]))
            self.assertIs(is_order(catalog, history, told), True)
            self.assertIs(is_cycle(catalog, history, []), False)
        else:
            self.assertEqual(word, "cycle")
            self.assertEqual({(type(told), *map(type, told))}, {(list, *[tuple] * len(told))})
            self.assertEqual(len(told), models.fewest_on_a_cycle(rows))
            self.check_cycle(told, rows)
            self.assertIs(is_cycle(catalog, history, told), True)
        return word

    def check_cycle(self, cycle, rows):
        for at, row in enumerate(cycle):
            self.assertIn(row, rows)
            self.assertEqual(row[0], cycle[at - 1][1])
        self.assertEqual(len({row[0] for row in cycle}), len(cycle))


class Serial(OrderCase):
    def test_least_order(self):
        catalog = items()
        put, see = ("put", [item(0)], [0]), ("see", [item(0)], [0])
        for history, order in [
            ([], []), ([put], [0]), ([put, put], [0, 1]), ([put, see], [1, 0]), ([put, put, see], [2, 0, 1]),
            ([put, ("see", [item(0)], [1])], [0, 1]), ([put, put, ("see", [item(0)], [1])], [0, 2, 1]),
            ([put, ("see", [item(1)], [0]), see], [1, 2, 0]), ([put, ("put", [item(1)], [0]), see], [1, 2, 0]),
            ([put, ("put", [item(1)], [0]), see, ("see", [item(1)], [0])], [2, 0, 3, 1]),
            ([put, ("see", [item(0)], [1]), see, ("put", [item(1)], [0])], [2, 0, 1, 3]),
        ]:
            for form in [list, deep_lists, deep_tuples]:
                self.assertEqual(form_of(serial(catalog, form(history))), form_of(("order", order)))
            self.check_serial(catalog, history)

    def test_arguments_by_name(self):
        history = [("put", [item(0)], [0]), ("see", [item(0)], [0])]
        self.assertEqual(serial(history=history, catalog=items()), ("order", [1, 0]))
        self.assertIs(is_order(order=[1, 0], history=history, catalog=items()), True)
        self.assertIs(is_cycle(cycle=[], history=history, catalog=items()), False)

    def test_cycles_of_each_length(self):
        # Each update reads an old item, which the one behind it in the circle writes.
        catalog = items()
        for many in range(2, 9):
            history = [("copy", [item(at), item((at - 1) % many)], [0, 0]) for at in range(many)]
            word, cycle = serial(catalog, history)
            self.assertEqual((word, len(cycle)), ("cycle", many))
            self.check_cycle(cycle, models.dependencies(catalog, history))
            self.assertEqual(serial(catalog, deep_lists(history)), (word, cycle))

    def test_shortest_of_several_cycles(self):
        catalog = items()
        long = [("copy", [item(at), item((at - 1) % 5)], [0, 0]) for at in range(5)]
        short = [("copy", [item(10 + at), item(10 + (at - 1) % 3)], [0, 0]) for at in range(3)]
        for history in [[*long, *short], [*short, *long], [*long[:2], *short, *long[2:]]]:
            word, cycle = serial(catalog, history)
            self.assertEqual((word, len(cycle)), ("cycle", 3))

    def test_worked_out_by_hand(self):
        word, cycle = serial(bank_catalog(), HISTORY)
        self.assertEqual((word, len(cycle)), ("cycle", 2))
        self.assertIn({row[:2] for row in cycle}, [{(2, 3), (3, 2)}, {(2, 5), (5, 2)}])
        self.check_serial(bank_catalog(), HISTORY)
        self.assertEqual(serial(bank_catalog(), HISTORY[:3]), ("order", [0, 2]))
        self.assertEqual(serial(bank_catalog(), HISTORY[:2]), ("order", [0]))

    def test_the_same_answer_for_equal_arguments(self):
        source = random.Random(2)
        for turn in range(40):
            catalog = models.some_catalog(source, 3, 2, "ab", 0.5, 0.3)
            history = models.some_history(source, catalog, 7)
            for form in [list, tuple, deep_lists, deep_tuples]:
                again = Catalog.of_text(catalog.text())
                self.assertEqual(serial(again, form(history)), serial(catalog, history))

    def test_as_the_model_says(self):
        source, found = random.Random(5), []
        for turn in range(500):
            catalog = models.some_catalog(source, 4, 3, "ab", source.choice([0.6, 0.9]), 0.3)
            history = models.some_history(source, catalog, source.randrange(2, 7), source.randrange(1, 3))
            found.append(self.check_serial(catalog, history))
        self.assertGreater(min(found.count("order"), found.count("cycle")), 50)

    def test_results_are_new_and_nothing_is_changed(self):
        for history in [HISTORY, HISTORY[:3]]:
            passed = deep_lists(history)
            expected = serial(bank_catalog(), history)
            spoil(serial(bank_catalog(), passed))
            self.assertEqual(passed, deep_lists(history))
            self.assertEqual(serial(bank_catalog(), passed), expected)

    def test_sixty_steps(self):
        catalog = items()
        history = [("copy", [item(at), item(at + 1)], [at, 0]) for at in range(60)]
        self.assertEqual(serial(catalog, history), ("order", list(range(60))))
        history = [("copy", [item(at), item(at + 1)], [0, 0]) for at in range(60)]
        self.assertEqual(serial(catalog, history), ("order", list(range(59, -1, -1))))
        history = [("copy", [item(at), item((at + 1) % 60)], [at, 0]) for at in range(60)]
        word, cycle = serial(catalog, history)
        self.assertEqual((word, len(cycle)), ("order", 60))
        history = [("copy", [item(at), item((at + 1) % 60)], [0, 0]) for at in range(60)]
        word, cycle = serial(catalog, history)
        self.assertEqual((word, len(cycle)), ("cycle", 60))
        self.assertIs(is_cycle(catalog, history, cycle), True)


class IsOrder(unittest.TestCase):
    def check_all(self, catalog, history):
        verdicts = replay(catalog, history)
        right = models.orders(verdicts, dependencies(catalog, history))
        indices = range(len(history))
        for many in range(len(history) + 1):
            for order in itertools.permutations(indices, many):
                for form in [list, tuple]:
                    self.assertIs(is_order(catalog, history, form(order)), list(order) in right)
        for order in right[:2]:
            for wrong in [[*order, len(history)], [*order, *order[:1]], order[1:], order[:-1], [*order, None],
                          [[index] for index in order], [order], [str(index) for index in order]]:
                self.assertIs(is_order(catalog, history, wrong), list(wrong) in right)
            for at in range(len(order)):
                for thing in [*no_integers(), -1, order[at] + 10 ** 39, -order[at] - 1, order[at - 1]]:
                    other = [*order[:at], thing, *order[at + 1:]]
                    self.assertIs(is_order(catalog, history, other), len(order) == 1 and thing is order[at - 1])
        return len(right)

    def test_all_lists_of_indices(self):
        source, found = random.Random(9), []
        for turn in range(80):
            catalog = models.some_catalog(source, 3, 2, "ab", 0.8, 0.3)
            history = models.some_history(source, catalog, source.randrange(2, 6), 1)
            found.append(self.check_all(catalog, history))
        self.assertGreater(len([many for many in found if many > 1]), 5)
        self.assertGreater(found.count(0), 5)

    def test_true_and_false_are_no_indices(self):
        history = [("put", [item(0)], [0]), ("put", [item(0)], [0])]
        for order, right in [([0, 1], True), ([False, True], False), ([0, True], False), ([False, 1], False)]:
            self.assertIs(is_order(items(), history, order), right)

    def test_of_any_object(self):
        for history in [HISTORY, HISTORY[:3], HISTORY[:1]]:
            for thing in [*any_objects(), *no_lists(), Fields([]), {0: 1}, "02", [[0, 2]], [(0, 2)], [0, [2]]]:
                self.assertIs(is_order(bank_catalog(), history, thing), False)

    def test_of_the_empty_history(self):
        for thing, right in [([], True), ((), True), ([0], False), (None, False), ("", False), ({}, False)]:
            self.assertIs(is_order(bank_catalog(), [], thing), right)

    def test_rejected_updates_do_not_stand_in_an_order(self):
        self.assertEqual(replay(bank_catalog(), HISTORY[:3]), [True, False, True])
        for order, right in [([0, 2], True), ([2, 0], False), ([0, 1, 2], False), ([0], False), ([0, 2, 2], False)]:
            self.assertIs(is_order(bank_catalog(), HISTORY[:3], order), right)


class IsCycle(unittest.TestCase):
    def check(self, cycle, right, history=HISTORY):
        for form in [lambda thing: thing, deep_lists, deep_tuples]:
            self.assertIs(is_cycle(bank_catalog(), history, form(cycle)), right, cycle)

    def test_all_short_lists_of_dependencies(self):
        rows = dependencies(bank_catalog(), HISTORY)
        found = []
        for many in range(1, 4):
            for some in itertools.product(rows, repeat=many):
                linked = all(some[at][0] == some[at - 1][1] for at in range(many))
                right = linked and len({row[0] for row in some}) == many
                found.append(right)
                if right or many < 3:
                    self.check(list(some), right)
                elif linked:
                    self.check(list(some), False)
        self.assertGreater(found.count(True), 30)

    def test_any_beginning(self):
        cycle = [(2, 3, "miss", A1, "limit"), (3, 5, "write", A1, "limit"), (5, 2, "miss", TOTAL, "sum")]
        for at in range(3):
            self.check(cycle[at:] + cycle[:at], True)
            self.check((cycle[at:] + cycle[:at])[:2], False)
        self.check(cycle[::-1], False)
        self.check(cycle * 2, False)
        self.check([*cycle, *cycle[:1]], False)

    def test_beginnings_that_are_alike(self):
        # Two circles that meet at one update.
        self.check([(2, 3, "miss", A1, "limit"), (3, 2, "miss", A1, "limit"), (2, 5, "write", A0, "limit"),
                    (5, 2, "miss", TOTAL, "sum")], False)

    def test_no_dependencies_of_the_history(self):
        right = [(2, 3, "miss", A1, "limit"), (3, 2, "miss", A1, "limit")]
        self.check(right, True)
        self.check(right, False, HISTORY[:3])
        for at, thing in [(0, 4), (0, 9), (0, -1), (0, "2"), (0, True), (0, None), (1, 2), (1, 3.5), (2, "read"),
                          (2, "write "), (2, None), (2, ["miss"]), (3, A0), (3, ("account", True)), (3, "account"),
                          (3, ("account", 1, 0)), (3, None), (3, {}), (4, "owner"), (4, "sum"), (4, None),
                          (4, ["limit"])]:
            row = list(right[0])
            row[at] = thing
            self.check([tuple(row), right[1]], False)
            self.check([right[1], row], False)

    def test_numbers_that_are_bools(self):
        history = [("put", [("item", 1)], [0]), ("copy", [("item", 1), ("item", 0)], [0, 0])]
        history.append(("copy", [("item", 0), ("item", 1)], [0, 0]))
        catalog = items()
        word, cycle = serial(catalog, history)
        self.assertEqual(word, "cycle")
        self.assertIs(is_cycle(catalog, history, cycle), True)
        for at, row in enumerate(cycle):
            one, other, kind, (name, number), field = row
            for wrong in [(bool(one) if one < 2 else "1", other, kind, (name, number), field),
                          (one, bool(other) if other < 2 else "1", kind, (name, number), field),
                          (one, other, kind, (name, bool(number)), field)]:
                self.assertIs(is_cycle(catalog, history, [*cycle[:at], wrong, *cycle[at + 1:]]), False)

    def test_of_any_object(self):
        row = (2, 3, "miss", A1, "limit")
        for thing in [*any_objects(), *no_lists(), [], (), Fields([]), row, [row], [row, None], [row, row], [list(row)],
                      [row[:4], (3, 2, "miss", A1, "limit")], [(*row, None), (3, 2, "miss", A1, "limit")], [[]], [()],
                      [None], [[None] * 5], [({}, [], None, 0, "x")], "23"]:
            self.assertIs(is_cycle(bank_catalog(), HISTORY, thing), False)


class Facts(unittest.TestCase):
    def run_in_order(self, catalog, history, order):
        """Run updates one after another on a new server, each reading the newest copies; tell what was read."""
        server, numbers = Server(catalog.schema), {}
        writers = {}
        for place, index in enumerate(order):
            name, resources, moments = history[index]
            copies = [Cache(server).read(resource) for resource in resources]
            many = sum(len(variable[3]) for variable in catalog[name].variables())
            draft = catalog[name](copies, [index + 1] * many)
            self.assertIs(type(draft), Draft)
            numbers[index] = server.handle(draft)
            writers[index] = [(at, field, copies[at][field] - 1 if copies[at][field] else None)
                              for at, (kind, read, cover, writes) in enumerate(catalog[name].variables())
                              for field in read]
        self.assertEqual(list(numbers.values()), list(range(len(order))))
        return writers

    def test_serial_orders_and_no_others_read_the_same(self):
        source, found = random.Random(17), []
        for turn in range(60):
            catalog = models.some_catalog(source, 3, 2, "ab", 0.4, 0.3)
            history = models.some_history(source, catalog, source.randrange(1, 6))
            verdicts = replay(catalog, history)
            rows = reads(catalog, history)
            for order in itertools.permutations([index for index in range(len(history)) if verdicts[index]]):
                writers = self.run_in_order(catalog, history, order)
                same = all(writers[index] == rows[index] for index in order)
                again = self.write_order(catalog, history, order) == self.write_order(
                    catalog, history, sorted(order))
                self.assertIs(is_order(catalog, history, order), same and again)
                found.append(same and again)
        self.assertGreater(min(found.count(True), found.count(False)), 50)

    def write_order(self, catalog, history, order):
        """By place, the updates that write it, in their order."""
        found = {}
        for index in order:
            name, resources, moments = history[index]
            for resource, (kind, read, cover, writes) in zip(resources, catalog[name].variables()):
                for field in writes:
                    found.setdefault((resource, field), []).append(index)
        return found


if __name__ == "__main__":
    unittest.main()
