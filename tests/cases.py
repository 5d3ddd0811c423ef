"""What several tests check."""

import random
import unittest

from seenmarks.histories import dependencies, replay
from seenmarks.orders import is_cycle, serial
from seenmarks.pivots import is_pivot
from tests import models
from tests.samples import any_objects, deep_lists, deep_tuples, form_of, no_integers


class ErrorCase(unittest.TestCase):
    def check_error(self, error, thing, call):
        """The call raises this error of exactly this object."""
        with self.assertRaises(error) as context:
            call()
        self.assertIs(type(context.exception), error)
        for held in vars(context.exception).values():
            self.assertIs(held, thing)


class PivotCase(ErrorCase):
    def check_form(self, history):
        """A history that is returned: tuples of a word and two lists, with numbers of at most 200."""
        self.assertEqual(form_of(history), form_of([(name, [tuple(resource) for resource in resources], list(moments))
                                                    for name, resources, moments in history]))
        for name, resources, moments in history:
            self.assertLessEqual(max(number for kind, number in resources), 200)

    def is_way(self, nodes, history):
        """Tell whether the updates but the last one are those of a way from a start node to one that closes."""
        layer = [node for node in nodes.starts() if node[0] == history[0][0]]
        for name, resources, moments in history[1:-1]:
            layer = [node for node in nodes.nodes if node[0] == name and any(nodes.leads(one, node) for one in layer)]
        return any(nodes.closes(node) for node in layer)

    def check_history(self, catalog, name, variable, history):
        """The history has all the properties that point 35 lists."""
        nodes = models.Nodes(catalog, name, variable)
        self.check_form(history)
        self.assertEqual(len(history), nodes.fewest() + 1)
        self.assertTrue(self.is_way(nodes, history))
        self.assertEqual(history[-1][0], name)
        self.assertEqual(replay(catalog, history), [True] * len(history))
        rows, last = dependencies(catalog, history), len(history) - 1
        for index in range(last):
            self.assertIn((index, index + 1), [row[:2] for row in rows])
        resource, read = history[-1][1][variable], catalog[name].variables()[variable][1]
        missed = [row[4] for row in rows if row[:4] == (last, 0, "miss", resource)]
        self.assertTrue(set(missed) & set(read))
        for form in [list, deep_lists, deep_tuples]:
            self.assertIs(is_pivot(catalog, name, variable, form(history)), True)
        self.check_cycle(catalog, history)

    def check_cycle(self, catalog, history):
        word, cycle = serial(catalog, history)
        self.assertEqual(word, "cycle")
        self.assertIs(is_cycle(catalog, history, cycle), True)

    def wrong_names(self, catalog):
        return [thing for thing in [*any_objects(), *[[name] for name in catalog.names()],
                                    *[catalog[name] for name in catalog.names()], "Add", "adds"]
                if thing not in catalog.names()]

    def wrong_numbers(self, many):
        return [-1, -many, many, many + 1, 10 ** 39, *no_integers(), [0], (0,), "0"]


def some_catalogs(seed, many, *sizes):
    """Catalogs at random."""
    source = random.Random(seed)
    for turn in range(many):
        share = source.choice([0.2, 0.35, 0.5, 0.65])
        yield models.some_catalog(source, *sizes, source.choice(["a", "ab", "abc"]), share, source.choice([0, 0.5, 1]))
