"""Catalogs: points 24 and 25 of the document, and 3 to 5 and 46 as far as they concern them."""

import itertools
import unittest

from seenmarks.catalogs import Catalog
from seenmarks.errors import BadCatalog, BadCover, BadVariable, UnknownTemplate
from seenmarks.fields import Fields
from seenmarks.kinds import Kind, Schema
from seenmarks.templates import Template
from tests.samples import (account, add, any_objects, bank, bank_catalog, covers_of, form_of, move, no_integers,
                           no_lists, no_words, shop, spoil, total)

REASONS = ["name", "kind", "field", "single", "cover"]


def template(name, *variables):
    return Template(name, variables)


def plain(name):
    """A template that may stand in a catalog of the bank."""
    return template(name, ("account", ["limit"], ["limit"], ["owner"]))


def wrong_template(wrong):
    """A template that is wrong for just these reasons: all variables but the last one are what they have to be."""
    variables = [("account", ["limit"], ["limit"], [])]
    if "field" in wrong:
        variables[0] = ("account", ["limit"], ["limit"], ["sum"])
    if "single" in wrong:
        variables = [("total", [], [], []), ("total", [], [], ["limit"] if "field" in wrong else [])]
    if "cover" in wrong:
        kind, reads, cover, writes = variables[0]
        variables[0] = (kind, [], ["limit"] if kind == "account" else ["sums"], writes)
    if "kind" in wrong:
        variables.append(("item", ["price"], ["price"], []))
    return template("first" if "name" in wrong else "second", *variables)


class MakingCatalogs(unittest.TestCase):
    def check_catalog(self, catalog, schema, templates):
        self.assertIs(catalog.schema, schema)
        self.assertEqual(form_of(catalog.names()), form_of([one.name for one in templates]))
        self.assertEqual(len(catalog), len(templates))
        for one in templates:
            self.assertIs(catalog[one.name], one)
            self.assertIs(one.name in catalog, True)

    def test_one_to_six_templates_in_the_given_order(self):
        schema = bank()
        for many in range(1, 7):
            for order in itertools.islice(itertools.permutations("abcdef", many), 40):
                for form in [list, tuple]:
                    templates = [plain(name) for name in order]
                    self.check_catalog(Catalog(schema, form(templates)), schema, templates)

    def test_arguments_by_name(self):
        schema, templates = bank(), [move(), add()]
        self.check_catalog(Catalog(templates=templates, schema=schema), schema, templates)

    def test_covers_that_are_allowed(self):
        schema = Schema([Kind("k", ["a", "b", "c"])])
        for reads, cover in itertools.product(covers_of(["a", "b", "c"]), repeat=2):
            one = template("f", ("k", reads, cover, []))
            if set(cover) <= set(reads) or len(cover) == 3:
                self.check_catalog(Catalog(schema, [one]), schema, [one])
            else:
                with self.assertRaises(BadCatalog) as context:
                    Catalog(schema, [one])
                self.assertEqual((context.exception.index, context.exception.reason), (0, "cover"))

    def test_all_fields_of_a_kind_of_one_field(self):
        schema = bank()
        one = template("f", ("total", [], ["sum"], []))
        self.check_catalog(Catalog(schema, [one]), schema, [one])

    def test_three_variables_of_one_kind(self):
        schema = bank()
        one = template("f", *[("account", ["limit"], ["limit"], [])] * 3)
        self.check_catalog(Catalog(schema, [one]), schema, [one])

    def test_list_that_was_passed(self):
        schema, templates = bank(), [move(), add()]
        catalog = Catalog(schema, templates)
        self.assertEqual(len(templates), 2)
        kept = list(templates)
        templates.append(plain("more"))
        templates[0] = None
        self.check_catalog(catalog, schema, kept)

    def test_returned_list_is_new(self):
        schema, templates = bank(), [move(), add()]
        catalog = Catalog(schema, templates)
        spoil(catalog.names())
        self.check_catalog(catalog, schema, templates)

    def test_getting_any_other_object(self):
        catalog = bank_catalog()
        for thing in [*any_objects(), "mov", "moves", "Move", ("move",), ["add"], b"add", 0, 1, -1, move()]:
            self.assertIs(thing in catalog, False)
            with self.assertRaises(UnknownTemplate) as context:
                catalog[thing]
            self.assertIs(context.exception.name, thing)


class WrongCatalogs(unittest.TestCase):
    def check_bad_catalog(self, index, reason, templates, schema=None):
        for form in [list, tuple] if isinstance(templates, list) else [lambda thing: thing]:
            with self.assertRaises(BadCatalog) as context:
                Catalog(schema or bank(), form(templates))
            self.assertEqual((context.exception.index, context.exception.reason), (index, reason))

    def test_empty_or_no_list(self):
        for thing in [*no_lists(), [], (), Fields([]), Fields(["a"])]:
            self.check_bad_catalog(0, "template", thing)

    def test_no_template_at_each_index(self):
        for thing in any_objects():
            if type(thing) is not Template:
                for index in range(6):
                    ahead = [plain(name) for name in "abcdef"[:index]]
                    self.check_bad_catalog(index, "template", [*ahead, thing])
                    self.check_bad_catalog(index, "template", [*ahead, thing, None, plain("a"), plain("g")])

    def test_seventh_template(self):
        six = [plain(name) for name in "abcdef"]
        for more in [plain("g"), plain("a"), None, wrong_template(["field"])]:
            self.check_bad_catalog(6, "template", [*six, more])
            self.check_bad_catalog(6, "template", [*six, more, None])

    def test_name_of_an_earlier_one(self):
        for order in itertools.product("abcd", repeat=4):
            again = [index for index in range(4) if order[index] in order[:index]]
            if again:
                self.check_bad_catalog(again[0], "name", [plain(name) for name in order])

    def test_the_same_template_twice(self):
        one = plain("a")
        self.check_bad_catalog(1, "name", [one, one])

    def test_kind_that_is_not_in_the_schema(self):
        for at in range(3):
            variables = [("account", [], [], [])] * 3
            for kind in ["item", "accounts", "accoun", "sum"]:
                variables[at] = (kind, [], [], [])
                self.check_bad_catalog(0, "kind", [template("f", *variables)])
                self.check_bad_catalog(1, "kind", [plain("a"), template("f", *variables), None])

    def test_fields_of_another_kind(self):
        for at, words in itertools.product(range(3), [["sum"], ["limit", "z"], ["a", "limit", "owner"]]):
            sets = [["limit"], ["limit"], ["limit"]]
            sets[at] = words
            for ahead in [[], [("account", [], [], [])], [("total", ["sum"], ["sum"], ["sum"])]]:
                self.check_bad_catalog(0, "field", [template("f", *ahead, ("account", *sets))])
        self.check_bad_catalog(0, "field", [template("f", ("total", ["limit"], [], []))])

    def test_two_variables_of_one_single_kind(self):
        one, other = ("total", ["sum"], [], []), ("account", [], [], [])
        for variables in [[one, one], [one, other, one], [other, one, one], [one, one, one]]:
            self.check_bad_catalog(0, "single", [template("f", *variables)])
            self.check_bad_catalog(1, "single", [plain("a"), template("f", *variables)])

    def test_cover_that_is_not_read(self):
        for reads, cover in [([], ["limit"]), (["limit"], ["owner"]), (["owner"], ["limit"])]:
            for ahead in [[], [("total", ["sum"], ["sum"], [])]]:
                self.check_bad_catalog(0, "cover", [template("f", *ahead, ("account", reads, cover, ["limit"]))])
        wide = [template("f", ("item", ["price", "name"], ["price", "name", "stock"], []))]
        self.check_bad_catalog(0, "cover", wide, shop())

    def test_example_44(self):
        self.check_bad_catalog(0, "cover", [template("keep", ("account", ["limit"], ["owner"], ["owner"]))])
        Catalog(bank(), [template("keep", ("account", ["limit"], ["owner", "limit"], ["owner"]))])

    def test_first_reason(self):
        for many in range(1, 6):
            for wrong in itertools.combinations(REASONS, many):
                if set(wrong) != {"single", "cover"} and set(wrong) != {"name", "single", "cover"}:
                    self.check_bad_catalog(1, wrong[0], [plain("first"), wrong_template(wrong)])
                    self.check_bad_catalog(1, wrong[0], [plain("first"), wrong_template(wrong), None])

    def test_single_ahead_of_cover(self):
        variables = [("total", [], [], []), ("total", [], [], []), ("account", [], ["limit"], [])]
        for order in itertools.permutations(variables):
            self.check_bad_catalog(0, "single", [template("f", *order)])
            self.check_bad_catalog(1, "name", [plain("f"), template("f", *order)])

    def test_reasons_of_all_variables_one_after_the_other(self):
        cover, field, kind = ("account", [], ["limit"], []), ("account", ["sum"], [], []), ("item", [], [], [])
        for order in itertools.permutations([cover, field, kind]):
            self.check_bad_catalog(0, "kind", [template("f", *order)])
        for order in itertools.permutations([cover, field]):
            self.check_bad_catalog(0, "field", [template("f", *order)])

    def test_first_index(self):
        wrong = {"template": None, "name": plain("a"), "kind": template("x", ("item", [], [], [])),
                 "field": template("y", ("account", ["sum"], [], [])),
                 "single": template("z", *[("total", [], [], [])] * 2),
                 "cover": template("w", ("account", [], ["limit"], []))}
        for order in itertools.permutations(wrong, 3):
            self.check_bad_catalog(1, order[0], [plain("a"), *[wrong[reason] for reason in order]])
            self.check_bad_catalog(3, order[0], [plain("a"), plain("b"), plain("c"), *[wrong[one] for one in order]])


class Equality(unittest.TestCase):
    def test_equal_if_schemas_and_templates_are(self):
        schemas = [[account(), total()], [total(), account()], [account(), Kind("total", ["sum"])],
                   [Kind("account", ["limit", "owner", "more"]), total()], [account(), total(), Kind("item", ["a"])]]
        templates = [[plain("a")], [plain("b")], [plain("a"), plain("b")], [plain("b"), plain("a")], [add()],
                     [template("a", ("account", ["limit"], [], ["owner"]))]]
        parts = list(itertools.product(range(len(schemas)), range(len(templates))))
        for one, other in itertools.product(parts, repeat=2):
            left = Catalog(Schema(schemas[one[0]]), templates[one[1]])
            right = Catalog(Schema(tuple(schemas[other[0]])), tuple(templates[other[1]]))
            self.assertIs(left == right, one == other)
            self.assertIs(left != right, one != other)

    def test_equals_nothing_else(self):
        catalog = bank_catalog()
        for thing in [*any_objects(), catalog.text(), catalog.schema, [add(), move()], (catalog.schema, [add()]),
                      catalog.names(), add()]:
            if type(thing) is not Catalog:
                self.assertIs(catalog == thing, False)
                self.assertIs(thing == catalog, False)
                self.assertIs(catalog != thing, True)


class WithCover(unittest.TestCase):
    def setUp(self):
        self.catalog = bank_catalog()
        self.before = bank_catalog()

    def tearDown(self):
        self.assertTrue(self.catalog == self.before)
        self.assertEqual(self.catalog["move"].variables(), self.before["move"].variables())

    def check_unknown_template(self, name, variable, cover):
        with self.assertRaises(UnknownTemplate) as context:
            self.catalog.with_cover(name, variable, cover)
        self.assertIs(context.exception.name, name)

    def check_bad_variable(self, name, variable, cover):
        with self.assertRaises(BadVariable) as context:
            self.catalog.with_cover(name, variable, cover)
        self.assertIs(context.exception.variable, variable)

    def check_bad_cover(self, name, variable, cover):
        with self.assertRaises(BadCover):
            self.catalog.with_cover(name, variable, cover)

    def test_one_cover_differs(self):
        schema = Schema([Kind("k", ["a", "b", "c"]), Kind("l", ["a", "b", "c"])])
        variables = [("k", ["a", "b", "c"], ["a"], ["b"]), ("k", ["a", "b"], [], []), ("l", [], [], ["a"])]
        catalog = Catalog(schema, [template("f", *variables), template("g", *variables), template("h", *variables)])
        for name, at, cover in itertools.product("fgh", range(3), covers_of(["a", "b", "c"])):
            kind, reads, old, writes = variables[at]
            if set(cover) <= set(reads) or len(cover) == 3:
                for form in [list, tuple, Fields]:
                    changed = catalog.with_cover(name, at, form(cover[::-1] + cover))
                    expected = list(variables)
                    expected[at] = (kind, reads, cover, writes)
                    self.assertIs(type(changed), Catalog)
                    self.assertEqual(changed.names(), ["f", "g", "h"])
                    self.assertTrue(changed.schema == schema)
                    for other in "fgh":
                        self.assertEqual(changed[other].variables(), expected if other == name else variables)
                    self.assertIs(changed == catalog, cover == old)
                    self.assertEqual(catalog[name].variables(), variables)
            else:
                with self.assertRaises(BadCover):
                    catalog.with_cover(name, at, cover)

    def test_arguments_by_name(self):
        changed = self.catalog.with_cover(cover=["owner"], variable=0, name="move")
        self.assertEqual([cover for kind, reads, cover, writes in changed["move"].variables()],
                         [["owner"], ["limit", "owner"], []])

    def test_cover_that_was_passed(self):
        cover = ["owner", "limit"]
        changed = self.catalog.with_cover("move", 0, cover)
        self.assertEqual(cover, ["owner", "limit"])
        cover.append("sum")
        self.assertEqual(changed["move"].variables()[0][2], ["limit", "owner"])

    def test_back_and_forth(self):
        there = self.catalog.with_cover("move", 2, ["sum"])
        self.assertIs(there == self.catalog, False)
        self.assertIs(there.with_cover("move", 2, []) == self.catalog, True)

    def test_unknown_template(self):
        for thing in [*any_objects(), "moves", ["move"]]:
            for variable, cover in [(0, []), (None, []), (0, None), (None, None), (7, ["sum"])]:
                self.check_unknown_template(thing, variable, cover)

    def test_bad_variable(self):
        for thing in [-1, 3, 10 ** 39, *no_integers()]:
            for cover in [[], ["limit"], None, ["sums"]]:
                self.check_bad_variable("move", thing, cover)
        for thing in [1, 2, -1, True, False]:
            self.check_bad_variable("add", thing, [])

    def test_bad_cover(self):
        for thing in [*no_lists(), *[[word] for word in no_words()], ["limit", "sum"], ["x"], ("limit", None),
                      Fields(["limit", "owner", "sum"]), [["limit"]]]:
            for variable in range(3):
                self.check_bad_cover("move", variable, thing)
        self.check_bad_cover("move", 1, ["owner"])
        self.check_bad_cover("move", 0, ["sum"])
        self.check_bad_cover("move", 2, ["limit"])
        self.check_bad_cover("add", 0, Fields(["owner"]))


if __name__ == "__main__":
    unittest.main()
