"""The smallest tags: points 39 to 42 of the document, and 3 to 5 and 46 as far as they concern them."""

import itertools
import random
import unittest

from seenmarks.catalogs import Catalog
from seenmarks.covers import parted, smallest_cover, too_small, with_smallest_covers
from seenmarks.errors import BadCover, BadVariable, UnknownTemplate
from seenmarks.fields import Fields
from seenmarks.histories import replay
from seenmarks.kinds import Kind, Schema
from seenmarks.pivots import judge, pivot, pivots
from seenmarks.templates import Template
from tests import models
from tests.cases import PivotCase, some_catalogs
from tests.samples import any_objects, bank, bank_catalog, covers_of, form_of, no_lists, no_words, spoil
from tests.test_pivots import counting

A0, TOTAL = ("account", 0), ("total", 0)


def in_order(words):
    """All ascending lists of these words, by the number of words and then as Python orders lists."""
    return sorted(covers_of(sorted(words)), key=lambda cover: (len(cover), cover))


def tried_out(catalog, name, variable):
    """The smallest cover and those ahead of it, found by the words of the document alone."""
    reads = catalog[name].variables()[variable][1]
    enough = [cover for cover in in_order(reads) if models.Nodes(catalog, name, variable, cover).fewest() is None]
    return enough[0], in_order(reads)[:in_order(reads).index(enough[0])]


def wide():
    """A catalog in which the smallest cover of the read of see is some of four fields."""
    schema = Schema([Kind("item", ["d", "b", "a", "c"]), Kind("log", ["x"], single=True)])
    return Catalog(schema, [
        Template("see", [("item", ["d", "b", "a", "c"], ["a", "b", "c", "d"], []), ("log", ["x"], ["x"], ["x"])]),
        Template("put", [("item", [], [], ["d", "c"]), ("log", ["x"], ["x"], ["x"])]),
        Template("set", [("item", [], [], ["b"]), ("log", ["x"], ["x"], ["x"])]),
        Template("all", [("item", [], [], ["a", "b", "c", "d"]), ("log", ["x"], ["x"], ["x"])]),
    ])


class Errors(PivotCase):
    def calls(self, catalog, name, variable):
        return [lambda: smallest_cover(catalog, name, variable), lambda: too_small(catalog, name, variable),
                lambda: parted(catalog, name, variable, [], []), lambda: parted(catalog, name, variable, None, ["x"])]

    def test_unknown_template_ahead_of_bad_variable_ahead_of_everything_else(self):
        catalog = bank_catalog()
        for thing in self.wrong_names(catalog):
            for variable in [0, None, True, 9]:
                for call in self.calls(catalog, thing, variable):
                    self.check_error(UnknownTemplate, thing, call)
        for name, many in [("add", 1), ("move", 3)]:
            for thing in self.wrong_numbers(many):
                for call in self.calls(catalog, name, thing):
                    self.check_error(BadVariable, thing, call)

    def test_bad_cover(self):
        catalog = bank_catalog()
        for thing in [*any_objects(), *no_lists(), *[[word] for word in no_words()], ["limit", "sum"], ["x"],
                      ("limit", None), Fields(["sum"]), [["limit"]], "limit"]:
            if thing not in [[], (), Fields([]), ["limit", "owner"], ("limit", "owner")]:
                for right in [["limit"], [], thing]:
                    self.check_error(BadCover, None, lambda: parted(catalog, "move", 1, thing, right))
                    self.check_error(BadCover, None, lambda: parted(catalog, "move", 1, right, thing))

    def test_covers_that_are_not_read(self):
        catalog = bank_catalog()
        for one, other in [(["owner"], []), ([], ["owner"]), (["owner"], ["owner"]), (["limit"], Fields(["owner"]))]:
            self.check_error(BadCover, None, lambda: parted(catalog, "move", 1, one, other))
            self.assertIn(parted(catalog, "move", 0, one, other) is None, [True, False])
        self.assertIsNone(parted(catalog, "add", 0, ["owner", "limit"], ["limit", "owner"]))


class Smallest(PivotCase):
    def check_read(self, catalog, name, variable):
        cover, ahead = tried_out(catalog, name, variable)
        self.assertEqual(form_of(smallest_cover(catalog, name, variable)), form_of(cover))
        self.assertEqual(pivot(catalog.with_cover(name, variable, cover), name, variable)[0], "never")
        rows = too_small(catalog, name, variable)
        self.assertEqual(form_of([row[0] for row in rows]), form_of(ahead))
        for row in rows:
            self.assertIs(type(row), tuple)
            self.assertEqual(len(row), 2)
            self.check_history(catalog.with_cover(name, variable, row[0]), name, variable, row[1])
        return len(cover), len(rows)

    def test_worked_out_by_hand(self):
        for catalog, name, variable, cover in [
            (counting(), "count", 0, ["limit"]), (counting(), "count", 1, ["sum"]), (counting(), "raise", 0, []),
            (bank_catalog(), "add", 0, ["limit"]), (wide(), "see", 1, ["x"]), (wide(), "put", 0, []),
        ]:
            self.assertEqual(form_of(smallest_cover(catalog, name, variable)), form_of(cover))
            self.check_read(catalog, name, variable)

    def test_least_of_several_smallest_covers(self):
        # b is written alone, and c only together with d: without b, and without both of c and d, a cycle pivots.
        self.assertEqual(smallest_cover(wide(), "see", 0), ["b", "c"])
        self.assertEqual([row[0] for row in too_small(wide(), "see", 0)],
                         [[], ["a"], ["b"], ["c"], ["d"], ["a", "b"], ["a", "c"], ["a", "d"]])
        self.check_read(wide(), "see", 0)

    def test_covers_of_several_words_at_random(self):
        # Every read would have to be covered, but for the fields that are written only beside others.
        source, found = random.Random(14), []
        for turn in range(40):
            rows = [Template("see", [("item", ["a", "b", "c", "d"], [], []), ("log", ["x"], [], ["x"])])]
            for name in "fghi":
                writes = [word for word in "abcd" if source.random() < 0.4]
                rows.append(Template(name, [("item", [], [], writes), ("log", ["x"], [], ["x"])]))
            found.append(self.check_read(Catalog(wide().schema, rows), "see", 0))
        self.assertEqual({many for many, ahead in found} | {0, 4}, {0, 1, 2, 3, 4})
        self.assertGreater(max(ahead for many, ahead in found), 8)

    def test_catalogs_at_random(self):
        found = []
        for catalog in some_catalogs(31, 200, 4, 3):
            for name, variable in models.all_variables(catalog):
                found.append(self.check_read(catalog, name, variable)[0])
        self.assertGreater(min(found.count(many) for many in [0, 1]), 20)

    def test_arguments_by_name(self):
        self.assertEqual(smallest_cover(variable=0, name="see", catalog=wide()), ["b", "c"])
        self.assertEqual(too_small(variable=0, name="see", catalog=wide()), too_small(wide(), "see", 0))

    def test_nothing_is_read(self):
        self.assertEqual(smallest_cover(counting(), "raise", 0), [])
        self.assertEqual(too_small(counting(), "raise", 0), [])

    def test_does_not_depend_on_the_covers(self):
        source = random.Random(15)
        for catalog in some_catalogs(32, 60, 4, 3):
            other = catalog
            for name, variable in models.all_variables(catalog):
                reads = catalog[name].variables()[variable][1]
                other = other.with_cover(name, variable, source.choice(covers_of(reads)))
            for name, variable in models.all_variables(catalog):
                self.assertEqual(smallest_cover(other, name, variable), smallest_cover(catalog, name, variable))

    def test_a_cover_with_more_fields_never_brings_a_cycle(self):
        for catalog in some_catalogs(33, 60, 4, 3):
            for name, variable in models.all_variables(catalog):
                covers = covers_of(catalog[name].variables()[variable][1])
                enough = [set(cover) for cover in covers
                          if pivot(catalog.with_cover(name, variable, cover), name, variable)[0] == "never"]
                for cover in covers:
                    self.assertIs(set(cover) in enough, any(one <= set(cover) for one in enough))

    def test_returned_lists_are_new_and_nothing_is_changed(self):
        catalog = wide()
        expected = too_small(catalog, "see", 0)
        spoil(smallest_cover(catalog, "see", 0))
        spoil(too_small(catalog, "see", 0))
        self.assertEqual(too_small(catalog, "see", 0), expected)
        self.assertEqual(smallest_cover(catalog, "see", 0), ["b", "c"])
        self.assertTrue(catalog == wide())

    def test_same_answer_for_equal_arguments(self):
        for catalog in some_catalogs(34, 40, 4, 3):
            again = Catalog.of_text(catalog.text())
            for name, variable in models.all_variables(catalog):
                self.assertEqual(too_small(again, name, variable), too_small(catalog, name, variable))


class WithSmallestCovers(PivotCase):
    def test_worked_out_by_hand(self):
        changed = with_smallest_covers(counting())
        self.assertIs(type(changed), Catalog)
        self.assertTrue(changed == counting().with_cover("count", 0, ["limit"]).with_cover("count", 1, ["sum"]))
        self.assertTrue(with_smallest_covers(catalog=changed) == changed)

    def test_covers_that_are_larger_are_made_smaller(self):
        covers = [row[2] for row in with_smallest_covers(wide())["see"].variables()]
        self.assertEqual(covers, [["b", "c"], ["x"]])

    def test_catalogs_at_random(self):
        for catalog in some_catalogs(35, 80, 4, 3):
            before = catalog.text()
            changed = with_smallest_covers(catalog)
            self.assertEqual(catalog.text(), before)
            self.assertEqual(judge(changed)[0], "serial")
            self.assertEqual(changed.names(), catalog.names())
            for name in catalog.names():
                rows = [(kind, reads, smallest_cover(catalog, name, at), writes)
                        for at, (kind, reads, cover, writes) in enumerate(catalog[name].variables())]
                self.assertEqual(changed[name].variables(), rows)

    def test_each_smaller_cover_has_a_cycle(self):
        found = 0
        for catalog in some_catalogs(36, 80, 4, 3):
            changed = with_smallest_covers(catalog)
            for name, variable in models.all_variables(catalog):
                cover = changed[name].variables()[variable][2]
                for smaller in in_order(catalog[name].variables()[variable][1]):
                    if len(smaller) < len(cover):
                        self.assertEqual(pivots(changed.with_cover(name, variable, smaller)), [(name, variable)])
                        found += 1
        self.assertGreater(found, 30)


class Parted(PivotCase):
    def allowed(self, catalog, name, variable):
        kind, reads, cover, writes = catalog[name].variables()[variable]
        everything = catalog.schema[kind].fields().words()
        return covers_of(reads) + ([] if set(reads) == set(everything) else [everything])

    def check(self, catalog, name, variable, one, other):
        """What is returned is what the words of the document say; tell whether it is a history."""
        history = parted(catalog, name, variable, one, other)
        kind = catalog[name].variables()[variable][0]
        writes = [set(row[3]) for some in catalog.names() for row in catalog[some].variables() if row[0] == kind]
        same = all(bool(wrote & set(one)) == bool(wrote & set(other)) for wrote in writes)
        self.assertIs(history is None, same)
        if history is not None:
            self.check_form(history)
            self.assertEqual((len(history), history[1][0]), (2, name))
            verdicts = [replay(catalog.with_cover(name, variable, cover), history) for cover in [one, other]]
            self.assertEqual(sorted(verdicts), [[True, False], [True, True]])
        for form in [list, tuple, Fields]:
            self.assertEqual(parted(catalog, name, variable, form(one[::-1]), form(other + other)), history)
        return history is not None

    def test_worked_out_by_hand(self):
        self.assertTrue(self.check(counting(), "count", 0, [], ["limit"]))
        self.assertFalse(self.check(wide(), "see", 0, ["c"], ["d"]))
        self.assertFalse(self.check(wide(), "see", 0, ["c"], ["c", "d"]))
        self.assertTrue(self.check(wide(), "see", 0, ["b"], ["b", "c"]))
        self.assertTrue(self.check(wide(), "see", 0, [], ["a"]))
        self.assertFalse(self.check(bank_catalog(), "add", 0, ["limit"], ["limit"]))

    def test_arguments_by_name(self):
        history = parted(other=["limit"], one=[], variable=0, name="count", catalog=counting())
        self.assertEqual(replay(counting(), history), [True, True])
        self.assertEqual(replay(counting().with_cover("count", 0, ["limit"]), history), [True, False])

    def test_equal_covers(self):
        for catalog in some_catalogs(41, 20, 4, 3):
            for name, variable in models.all_variables(catalog):
                for cover in self.allowed(catalog, name, variable):
                    self.assertIsNone(parted(catalog, name, variable, cover, Fields(cover)))

    def test_catalogs_at_random(self):
        found = []
        for catalog in some_catalogs(42, 100, 4, 3):
            for name, variable in models.all_variables(catalog):
                for one, other in itertools.combinations(self.allowed(catalog, name, variable), 2):
                    found.append(self.check(catalog, name, variable, one, other))
                    self.assertIs(self.check(catalog, name, variable, other, one), found[-1])
        self.assertGreater(min(found.count(True), found.count(False)), 100)

    def test_where_none_is_returned_the_same_updates_are_accepted(self):
        source, found = random.Random(43), []
        for catalog in some_catalogs(44, 80, 4, 3):
            histories = [models.some_history(source, catalog, 8, 1) for turn in range(3)]
            for name, variable in models.all_variables(catalog):
                for one, other in itertools.combinations(self.allowed(catalog, name, variable), 2):
                    if parted(catalog, name, variable, one, other) is None:
                        left = catalog.with_cover(name, variable, one)
                        right = catalog.with_cover(name, variable, other)
                        for history in histories:
                            verdicts = replay(left, history)
                            self.assertEqual(replay(right, history), verdicts)
                            found += verdicts
        self.assertGreater(min(found.count(True), found.count(False)), 100)

    def test_the_cover_that_the_read_has_does_not_matter(self):
        for cover in [[], ["limit"], ["limit", "owner"]]:
            catalog = counting().with_cover("count", 0, cover)
            self.assertTrue(self.check(catalog, "count", 0, [], ["limit"]))
            self.assertEqual(parted(catalog, "count", 0, [], ["limit"]), parted(counting(), "count", 0, [], ["limit"]))

    def test_all_fields_of_the_kind_where_they_are_not_read(self):
        catalog = Catalog(bank(), [Template("look", [("account", ["limit"], ["limit"], [])]),
                                   Template("name", [("account", [], [], ["owner"])])])
        self.assertTrue(self.check(catalog, "look", 0, ["limit"], ["limit", "owner"]))
        self.assertFalse(self.check(catalog, "look", 0, [], ["limit"]))

    def test_returned_history_is_new(self):
        expected = parted(counting(), "count", 0, [], ["limit"])
        catalog = counting()
        spoil(parted(catalog, "count", 0, [], ["limit"]))
        self.assertEqual(parted(catalog, "count", 0, [], ["limit"]), expected)

    def test_lists_that_were_passed(self):
        one, other = ["owner", "limit", "owner"], ["limit"]
        catalog = Catalog(bank(), [Template("f", [("account", ["limit", "owner"], [], ["owner"])])])
        history = parted(catalog, "f", 0, one, other)
        self.assertEqual((one, other), (["owner", "limit", "owner"], ["limit"]))
        spoil(one)
        self.assertEqual(len(history), 2)


if __name__ == "__main__":
    unittest.main()
