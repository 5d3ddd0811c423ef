"""All histories of a catalog: points 33 to 38 of the document, and 3 to 5 and 46 as far as they concern them."""

import itertools
import random
import unittest

from seenmarks.catalogs import Catalog
from seenmarks.errors import BadVariable, UnknownTemplate
from seenmarks.fields import Fields
from seenmarks.histories import replay
from seenmarks.kinds import Kind, Schema
from seenmarks.pivots import is_closed, is_pivot, judge, needless, pivot, pivots, unnoticed
from seenmarks.templates import Template
from tests import models
from tests.cases import PivotCase, some_catalogs
from tests.samples import any_objects, bank, bank_catalog, deep_lists, deep_tuples, form_of, no_lists, spoil

A0, A1, TOTAL = ("account", 0), ("account", 1), ("total", 0)


def counting():
    """The catalog of the example 45."""
    return Catalog(bank(), [
        Template("count", [("account", ["limit"], [], []), ("total", ["sum"], [], ["sum"])]),
        Template("raise", [("account", [], [], ["limit"])]),
    ])


def relay(places, singles=""):
    """A catalog in which a cycle takes one update more than there are places.

    Each update reads what the one ahead of it writes at the next place. The read at which the cycle pivots covers what
    its own template writes there, as otherwise this template would be a short cut.
    """
    kinds = [Kind(name, ["x", "y"], single=name in singles) for name in "klmn"]
    rows = [Template("start", [("k", [], [], ["x"]), (places[0][0], [], [], [places[0][1]])])]
    for at, (kind, field) in enumerate(places[:-1]):
        following, written = places[at + 1]
        rows.append(Template("abcd"[at], [(kind, [field], [field], []), (following, [], [], [written])]))
    kind, field = places[-1]
    rows.append(Template("end", [("k", ["x", "y"], ["y"], ["y"]), (kind, [field], [field], [])]))
    return Catalog(Schema(kinds), rows)


def all_calls(catalog, name, variable):
    """A call of each function that takes a read, with right and wrong other arguments."""
    return [lambda: pivot(catalog, name, variable), lambda: unnoticed(catalog, name, variable),
            lambda: needless(catalog, name, variable), lambda: is_pivot(catalog, name, variable, []),
            lambda: is_pivot(catalog, name, variable, None), lambda: is_closed(catalog, name, variable, []),
            lambda: is_closed(catalog, name, variable, None)]


class Errors(PivotCase):
    def test_unknown_template_ahead_of_bad_variable_ahead_of_everything_else(self):
        catalog = bank_catalog()
        for thing in self.wrong_names(catalog):
            for variable in [0, None, True, 9]:
                for call in all_calls(catalog, thing, variable):
                    self.check_error(UnknownTemplate, thing, call)
        for name, many in [("add", 1), ("move", 3)]:
            for thing in self.wrong_numbers(many):
                for call in all_calls(catalog, name, thing):
                    self.check_error(BadVariable, thing, call)


class Never(PivotCase):
    def test_nodes_worked_out_by_hand(self):
        covered = counting().with_cover("count", 0, ["limit"]).with_cover("count", 1, ["sum"])
        # With all that is read in the cover there is no start node.
        for name, variable in [("count", 0), ("count", 1), ("raise", 0)]:
            self.assertEqual(form_of(pivot(covered, name, variable)), form_of(("never", [])))
        # Accounts that are only written: a raise leads to other raises, and to nothing that the read of look misses.
        catalog = Catalog(bank(), [Template("look", [("account", ["limit"], [], [])]),
                                   Template("raise", [("account", ["owner"], ["owner"], ["limit"])])])
        self.assertEqual(form_of(pivot(catalog, "look", 0)),
                         form_of(("never", [("look", 0, True), ("raise", 0, True)])))
        self.assertEqual(pivot(catalog, "raise", 0), ("never", []))

    def test_nodes_of_single_kinds(self):
        till = Schema([Kind("till", ["sum", "name"], single=True), Kind("item", ["sum"])])
        catalog = Catalog(till, [Template("look", [("till", ["sum"], [], [])]),
                                 Template("sell", [("item", [], [], ["sum"]), ("till", [], [], ["sum"])]),
                                 Template("call", [("till", [], [], ["name"])]),
                                 Template("tell", [("item", ["sum"], ["sum"], [])])])
        self.assertEqual(pivot(catalog, "look", 0),
                         ("never", [("look", 0, True), ("sell", 0, False), ("sell", 1, True), ("tell", 0, False)]))
        self.assertEqual(pivot(catalog.with_cover("look", 0, ["sum"]), "look", 0), ("never", []))
        self.assertEqual(pivot(catalog, "tell", 0), ("never", []))

    def test_returned_lists_are_new(self):
        catalog = Catalog(bank(), [Template("look", [("account", ["limit"], [], [])]),
                                   Template("raise", [("account", [], [], ["limit"])])])
        expected = pivot(catalog, "look", 0)
        spoil(pivot(catalog, "look", 0))
        self.assertEqual(form_of(pivot(catalog, "look", 0)), form_of(expected))

    def test_nothing_is_read_or_nothing_is_written(self):
        catalog = Catalog(bank(), [Template("raise", [("account", [], [], ["limit"]), ("total", [], [], ["sum"])])])
        self.assertEqual(judge(catalog), ("serial", [("raise", 0, []), ("raise", 1, [])]))
        catalog = Catalog(bank(), [Template("look", [("account", ["limit"], [], []), ("total", ["sum"], [], [])])])
        self.assertEqual(judge(catalog), ("serial", [("look", 0, []), ("look", 1, [])]))
        self.assertEqual(pivots(catalog), [])


class Cycles(PivotCase):
    def test_two_updates(self):
        word, history = pivot(bank_catalog(), "add", 0)
        self.assertEqual((word, len(history)), ("cycle", 2))
        self.check_history(bank_catalog(), "add", 0, history)

    def test_three_updates(self):
        result = pivot(counting(), "count", 0)
        self.assertIs(type(result), tuple)
        self.assertEqual((result[0], len(result[1])), ("cycle", 3))
        self.check_history(counting(), "count", 0, result[1])

    def test_ways_of_each_length(self):
        for many in [1, 2, 3]:
            for singles in ["", "l", "m", "lm", "k", "klmn", "n"]:
                self.check_relay(relay([("l", "x"), ("m", "x"), ("n", "x")][:many], singles), many)

    def test_long_way_through_all_templates(self):
        places = [("l", "x"), ("l", "y"), ("m", "x"), ("m", "y"), ("n", "x")]
        for many in range(1, 6):
            self.check_relay(relay(places[:many], "k"), many)

    def check_relay(self, catalog, many):
        word, history = pivot(catalog, "end", 0)
        self.assertEqual((word, [step[0] for step in history]), ("cycle", ["start", *"abcd"[:many - 1], "end"]))
        self.check_history(catalog, "end", 0, history)
        self.assertEqual(pivots(catalog), [("end", 0)])
        self.assertEqual(judge(catalog), ("cycle", history))
        self.assertEqual(pivots(catalog.with_cover("end", 0, ["x", "y"])), [])

    def test_same_answer_for_equal_arguments(self):
        for catalog in some_catalogs(3, 30, 3, 3):
            again = Catalog.of_text(catalog.text())
            for name, variable in models.all_variables(catalog):
                self.assertEqual(pivot(again, name, variable), pivot(catalog, name, variable))
            self.assertEqual(judge(again), judge(catalog))

    def test_returned_lists_are_new(self):
        expected = pivot(counting(), "count", 0)
        catalog = counting()
        for call in [lambda: pivot(catalog, "count", 0), lambda: judge(catalog)]:
            result = call()
            spoil(call())
            self.assertEqual(call(), result)
        self.assertEqual(pivot(catalog, "count", 0), expected)


class Random(PivotCase):
    def check_read(self, catalog, name, variable):
        """What pivot returns of a read is what the words of the document say; tell the number of the updates."""
        nodes, (word, told) = models.Nodes(catalog, name, variable), pivot(catalog, name, variable)
        if nodes.fewest() is None:
            self.assertEqual((word, form_of(told)), ("never", form_of(nodes.reached())))
            for form in [list, tuple, deep_lists, deep_tuples, lambda thing: thing[::-1] + thing]:
                self.assertIs(is_closed(catalog, name, variable, form(told)), True)
            return 0
        self.assertEqual(word, "cycle")
        self.check_history(catalog, name, variable, told)
        return len(told)

    def check_catalog(self, catalog):
        counts = {read: self.check_read(catalog, *read) for read in models.all_variables(catalog)}
        self.assertEqual(form_of(pivots(catalog)), form_of([read for read, many in counts.items() if many]))
        result = judge(catalog)
        self.assertIs(type(result), tuple)
        if any(counts.values()):
            self.assertEqual((result[0], len(result[1])), ("cycle", min(filter(None, counts.values()))))
            self.assertIn(result[1], [pivot(catalog, *read)[1] for read in counts if counts[read]])
        else:
            closed = [(name, variable, pivot(catalog, name, variable)[1]) for name, variable in counts]
            self.assertEqual(form_of(result), form_of(("serial", closed)))
        return list(counts.values())

    def test_small_catalogs(self):
        found = [many for catalog in some_catalogs(1, 400, 3, 2) for many in self.check_catalog(catalog)]
        self.assertGreater(min(found.count(many) for many in [0, 2, 3]), 5)

    def test_larger_catalogs(self):
        found = [many for catalog in some_catalogs(2, 200, 5, 3) for many in self.check_catalog(catalog)]
        self.assertGreater(min(found.count(many) for many in [0, 2, 3]), 10)
        self.assertGreater(max(found), 3)


class AllHistories(PivotCase):
    """All short histories, tried out one by one."""

    def check_catalog(self, catalog, most):
        fewest, cycle = {}, None
        for history in models.accepted_histories(catalog, most):
            if models.fewest_on_a_cycle(models.dependencies(catalog, history)) is not None:
                cycle = min(cycle or most, len(history))
            for name, variable in models.all_variables(catalog):
                right = models.is_pivot(catalog, name, variable, history)
                self.assertIs(is_pivot(catalog, name, variable, history), right)
                if right:
                    fewest[name, variable] = min(fewest.get((name, variable), most), len(history))
        for name, variable in models.all_variables(catalog):
            word, told = pivot(catalog, name, variable)
            due = len(told) if word == "cycle" and len(told) <= most else None
            self.assertEqual(fewest.get((name, variable)), due, catalog.text())
        word, told = judge(catalog)
        self.assertEqual(cycle, len(told) if word == "cycle" and len(told) <= most else None, catalog.text())
        return cycle

    def test_small_catalogs(self):
        source, found = random.Random(21), []
        while len(found) < 90:
            catalog = models.some_catalog(source, 3, 2, source.choice(["a", "ab"]), 0.4, 0.5)
            if len(models.all_variables(catalog)) <= 2:
                found.append(self.check_catalog(catalog, 3))
        self.assertGreater(min(found.count(None), found.count(2)), 5)

    def test_three_updates(self):
        catalog = counting().with_cover("count", 1, ["sum"])
        self.assertEqual(self.check_catalog(catalog, 3), 3)
        self.assertEqual(self.check_catalog(catalog.with_cover("count", 0, ["limit"]), 3), None)
        schema = Schema([Kind("account", ["limit"]), Kind("total", ["sum"], single=True)])
        catalog = Catalog(schema, [Template("count", [("account", ["limit"], [], []), ("total", [], [], ["sum"])]),
                                   Template("raise", [("account", [], [], ["limit"])])])
        self.assertEqual(self.check_catalog(catalog, 3), 3)


class IsPivot(PivotCase):
    history = [("raise", [A0], [0]), ("count", [A0, TOTAL], [1, 1]), ("count", [A0, TOTAL], [0, 2])]

    def check(self, right, history, name="count", variable=0, catalog=None):
        for form in [lambda thing: thing, deep_lists, deep_tuples]:
            self.assertIs(is_pivot(catalog or counting(), name, variable, form(history)), right)

    def test_example_45(self):
        self.check(True, self.history)
        self.check(False, self.history, "count", 1)
        self.check(False, self.history, "raise", 0)
        self.assertIs(is_pivot(history=self.history, variable=0, name="count", catalog=counting()), True)

    def test_more_updates_than_are_needed(self):
        more = [self.history[0], ("raise", [A0], [1]), ("count", [A0, TOTAL], [2, 2]), ("count", [A1, TOTAL], [0, 3]),
                ("count", [A0, TOTAL], [0, 4])]
        self.check(True, more)
        self.check(False, [more[0], ("raise", [A1], [0]), *more[2:]])

    def test_moments_of_the_last_update(self):
        for one, other in itertools.product(range(3), repeat=2):
            # At the moment 1 and 2 it reads what the raise wrote; whatever it read of the sum, it writes it.
            self.check(one == 0, [*self.history[:2], ("count", [A0, TOTAL], [one, other])])
            self.check(False, [*self.history[:2], ("count", [A1, TOTAL], [one, other])])

    def test_all_updates_have_to_be_accepted(self):
        covered = counting().with_cover("count", 1, ["sum"])
        self.check(True, self.history, catalog=covered)
        for moments in [[0, 0], [0, 1]]:
            history = [*self.history[:2], ("count", [A0, TOTAL], moments)]
            self.check(True, history)
            self.check(False, history, catalog=covered)
        self.check(False, self.history, catalog=counting().with_cover("count", 0, ["limit"]))

    def test_last_update_is_of_the_template(self):
        self.check(False, [*self.history, ("raise", [A0], [0])])
        self.check(False, self.history[:2])
        self.check(True, [("count", [A0, TOTAL], [0, 0]), ("count", [A0, TOTAL], [0, 0])], "count", 1)

    def test_too_few_steps(self):
        self.check(False, [])
        self.check(False, self.history[:1])
        self.check(False, self.history[2:])
        self.check(False, [("count", [A0, TOTAL], [0, 0])], "count", 1)

    def test_of_any_object(self):
        for thing in [*any_objects(), *no_lists(), Fields(["count"]), self.history[0], [self.history[0], None],
                      [*self.history, None], [None, *self.history], {0: self.history},
                      [*self.history[:2], ("count", [A0, TOTAL], [0, 3])], [*self.history[:2], ("count", [A0], [0])],
                      [*self.history[:2], ("count", [A0, TOTAL], [False, 2])],
                      [*self.history[:2], ("count", [("account", False), TOTAL], [0, 2])]]:
            self.check(False, thing)

    def test_as_the_model_says(self):
        source, found = random.Random(8), []
        for catalog in some_catalogs(4, 200, 3, 2):
            for turn in range(20):
                history = models.some_history(source, catalog, source.randrange(2, 4), 1)
                for name, variable in models.all_variables(catalog):
                    found.append(is_pivot(catalog, name, variable, history))
                    self.assertIs(found[-1], models.is_pivot(catalog, name, variable, history))
        self.assertGreater(min(found.count(True), found.count(False)), 50)

    def test_beginnings_and_changes_of_the_history_of_pivot(self):
        catalog = relay([("l", "x"), ("m", "x"), ("n", "x")])
        history = pivot(catalog, "end", 0)[1]
        self.assertIs(is_pivot(catalog, "end", 0, history), True)
        for at in range(4):
            self.assertIs(is_pivot(catalog, "end", 0, history[:at]), False)
            self.assertIs(is_pivot(catalog, "end", 0, history[:at] + history[at + 1:]), False)
        for at, one in itertools.product(range(3), range(2)):
            changed = deep_lists(history)
            changed[at][1][one][1] += 1000
            other = models.is_pivot(catalog, "end", 0, changed)
            self.assertIs(is_pivot(catalog, "end", 0, changed), other)


class IsClosed(PivotCase):
    def model(self, nodes, things):
        """Point 36, of nodes in the form of nodes."""
        known = [tuple(thing) for thing in things]
        allowed = all(node in nodes.nodes for node in known)
        return allowed and all(node in known for node in nodes.starts()) and not any(map(nodes.closes, known)) and all(
            following in known for node in known for following in nodes.nodes if nodes.leads(node, following))

    def test_lists_of_nodes_at_random(self):
        source, found = random.Random(6), []
        for catalog in some_catalogs(5, 80, 3, 2):
            everything = [(g, v, here) for g, v in models.all_variables(catalog) for here in [False, True]]
            for name, variable in models.all_variables(catalog):
                nodes = models.Nodes(catalog, name, variable)
                reached = nodes.reached()
                tried = [reached, reached[1:], reached[:-1], nodes.nodes, everything, []]
                tried += [reached + source.sample(nodes.nodes, min(2, len(nodes.nodes))) for turn in range(4)]
                tried += [[node for node in everything if source.random() < 0.5] for turn in range(4)]
                for things in tried:
                    right = self.model(nodes, things)
                    found.append(right)
                    for form in [list, deep_lists, deep_tuples, lambda some: some[::-1] + some]:
                        self.assertIs(is_closed(catalog, name, variable, form(things)), right)
                    if right:
                        self.assertEqual(pivot(catalog, name, variable)[0], "never")
        self.assertGreater(min(found.count(True), found.count(False)), 200)

    def test_each_node_is_needed(self):
        found = 0
        for catalog in some_catalogs(6, 150, 4, 3):
            for name, variable in models.all_variables(catalog):
                word, told = pivot(catalog, name, variable)
                if word == "never":
                    for at in range(len(told)):
                        self.assertIs(is_closed(catalog, name, variable, told[:at] + told[at + 1:]), False)
                        found += 1
        self.assertGreater(found, 50)

    def test_of_any_object(self):
        catalog = Catalog(bank(), [Template("look", [("account", ["limit"], [], []), ("total", [], [], [])]),
                                   Template("raise", [("account", [], [], ["limit"])])])
        word, nodes = pivot(catalog, "look", 0)
        self.assertEqual((word, nodes), ("never", [("look", 0, True), ("raise", 0, True)]))
        self.assertIs(is_closed(nodes=nodes, variable=0, name="look", catalog=catalog), True)
        for thing in [*any_objects(), *no_lists(), Fields([]), [], (), {0: nodes}, nodes[0], [nodes], "look"]:
            self.assertIs(is_closed(catalog, "look", 0, thing), False)
        for thing in [*any_objects(), ("look", 0), ("look", 0, True, None), ("look", 0, 1), ("look", False, True),
                      ("look", 2, False), ("look", -1, False), ("look", 1, True), ("raise", 1, True),
                      ("looks", 0, True),
                      (["look"], 0, True), ("look", [0], True), ("look", 0, [True]), ("look", 0, None), (None, 0, True),
                      ("look", "0", True), Fields(["look"]), {}, (), ("look", 10 ** 39, False)]:
            self.assertIs(is_closed(catalog, "look", 0, [*nodes, thing]), False)
            self.assertIs(is_closed(catalog, "look", 0, [thing, *nodes]), False)
        for thing in [("look", 0, True), ["look", 0, True], ["raise", 0, True]]:
            self.assertIs(is_closed(catalog, "look", 0, [thing, *nodes]), True)

    def test_a_list_without_nodes(self):
        catalog = counting().with_cover("count", 0, ["limit"])
        for thing in [[], ()]:
            self.assertIs(is_closed(catalog, "count", 0, thing), True)
            self.assertIs(is_closed(counting(), "count", 0, thing), False)
        for thing in [None, "", {}, Fields([]), 0, False]:
            self.assertIs(is_closed(catalog, "count", 0, thing), False)

    def test_list_that_was_passed(self):
        catalog = counting().with_cover("count", 0, ["limit"])
        nodes = [["raise", 0, False]]
        result = is_closed(catalog, "count", 0, nodes)
        self.assertEqual(nodes, [["raise", 0, False]])
        self.assertIs(result, models.Nodes(catalog, "count", 0).closes(("raise", 0, False)))


class Telling(PivotCase):
    def test_pivots_by_the_order_of_templates_and_variables(self):
        rows = [Template(name, [("account", ["limit"], [], ["limit"]), ("account", ["limit"], ["limit"], []),
                                ("total", ["sum"], [], ["sum"])]) for name in ["z", "a", "m"]]
        self.assertEqual(form_of(pivots(Catalog(bank(), rows))),
                         form_of([(name, variable) for name in ["z", "a", "m"] for variable in [0, 2]]))

    def test_judge_serial(self):
        catalog = counting().with_cover("count", 0, ["limit"]).with_cover("count", 1, ["sum"])
        self.assertEqual(form_of(judge(catalog)),
                         form_of(("serial", [("count", 0, []), ("count", 1, []), ("raise", 0, [])])))
        self.assertEqual(pivots(catalog=catalog), [])
        spoil(judge(catalog=catalog))
        self.assertEqual(judge(catalog)[1][0], ("count", 0, []))

    def test_judge_cycle_with_the_fewest_updates(self):
        self.assertEqual((judge(counting())[0], len(judge(counting())[1])), ("cycle", 2))
        catalog = counting().with_cover("count", 1, ["sum"])
        self.assertEqual(judge(catalog), ("cycle", pivot(catalog, "count", 0)[1]))
        self.assertEqual(len(judge(catalog)[1]), 3)
        self.assertEqual(pivots(catalog), [("count", 0)])

    def test_unnoticed_and_needless(self):
        catalog = Catalog(bank(), [
            Template("both", [("account", ["limit"], ["limit"], ["limit", "owner"]), ("account", [], [], ["owner"])]),
            Template("keep", [("account", ["limit"], ["limit", "owner"], ["owner"])]),
            Template("look", [("account", ["limit", "owner"], ["owner"], []), ("total", ["sum"], [], ["sum"])]),
            Template("raise", [("account", [], [], ["limit"]), ("total", [], ["sum"], ["sum"])]),
        ])
        for read, missed, rejected in [
            (("both", 0), [], []), (("both", 1), [], []), (("keep", 0), [], [("both", 1), ("keep", 0)]),
            (("look", 0), [("raise", 0)], []), (("look", 1), [("look", 1), ("raise", 1)], []), (("raise", 0), [], []),
            (("raise", 1), [], [("look", 1), ("raise", 1)]),
        ]:
            self.assertEqual(form_of(unnoticed(catalog, *read)), form_of(missed))
            self.assertEqual(form_of(needless(catalog, *read)), form_of(rejected))

    def test_unnoticed_and_needless_by_name_and_new(self):
        catalog = counting()
        self.assertEqual(unnoticed(variable=0, name="count", catalog=catalog), [("raise", 0)])
        spoil(unnoticed(catalog, "count", 0))
        self.assertEqual(unnoticed(catalog, "count", 0), [("raise", 0)])
        self.assertEqual(needless(variable=0, name="count", catalog=catalog), [])

    def test_unnoticed_and_needless_as_the_words_say(self):
        found = []
        for catalog in some_catalogs(7, 60, 4, 3):
            rows = {read: models.variables_of(catalog, read[0])[read[1]] for read in models.all_variables(catalog)}
            for (name, variable), (kind, fields, cover, writes) in rows.items():
                same = [(read, row[3]) for read, row in rows.items() if row[0] == kind]
                missed = [read for read, wrote in same if wrote & fields and not wrote & cover]
                rejected = [read for read, wrote in same if wrote & cover and not wrote & fields]
                self.assertEqual(unnoticed(catalog, name, variable), missed)
                self.assertEqual(needless(catalog, name, variable), rejected)
                found += [bool(missed), bool(rejected)]
        self.assertGreater(found.count(True), 50)

    def placed(self, catalog, name, own, first):
        """Resources for the variables of a template: that of its own variable has the number 0."""
        kinds = [kind for kind, reads, cover, writes in catalog[name].variables()]
        return [(kind, 0 if at == own or catalog.schema[kind].single else first + at) for at, kind in enumerate(kinds)]

    def test_what_unnoticed_and_needless_mean(self):
        found = []
        for catalog in some_catalogs(8, 60, 3, 2):
            for name, variable in models.all_variables(catalog):
                for call, accepted in [(unnoticed, True), (needless, False)]:
                    for writer, number in call(catalog, name, variable):
                        places = self.placed(catalog, writer, number, 10)
                        between = (writer, places, [0] * len(places))
                        resources = self.placed(catalog, name, variable, 20)
                        late = [0 if at == variable else 1 for at in range(len(resources))]
                        self.assertEqual(replay(catalog, [between, (name, resources, late)]), [True, accepted])
                        found.append(accepted)
        self.assertGreater(min(found.count(True), found.count(False)), 5)


if __name__ == "__main__":
    unittest.main()
