"""Kind and Schema: points 8 to 10 of the document, and 3 to 5 as far as they concern them."""

import itertools
import unittest

from seenmarks.errors import BadField, BadKind, BadWord, UnknownKind
from seenmarks.fields import Fields
from seenmarks.kinds import Kind, Schema
from tests.samples import account, any_objects, bank, no_lists, no_words, total


class MakingKinds(unittest.TestCase):
    def check_bad_word(self, name, fields):
        with self.assertRaises(BadWord) as context:
            Kind(name, fields)
        self.assertIs(context.exception.word, name)

    def check_bad_field(self, index, fields):
        with self.assertRaises(BadField) as context:
            Kind("account", fields)
        self.assertEqual(context.exception.index, index, fields)

    def test_one_to_four_fields(self):
        words = ["owner", "limit", "a", "abcdefgh"]
        for many in range(1, 5):
            for some in itertools.permutations(words, many):
                for form in [list, tuple]:
                    kind = Kind("account", form(some))
                    self.assertEqual(kind.fields().words(), sorted(some))

    def test_attributes(self):
        kind = Kind("account", ["limit"])
        self.assertEqual(kind.name, "account")
        self.assertIs(kind.single, False)
        self.assertIs(Kind("total", ["sum"], single=True).single, True)
        self.assertIs(Kind("total", ["sum"], single=False).single, False)
        self.assertIs(type(kind.fields()), Fields)

    def test_arguments_by_name(self):
        kind = Kind(single=True, fields=("sum", "count"), name="total")
        self.assertEqual((kind.name, kind.fields().words(), kind.single), ("total", ["count", "sum"], True))

    def test_single_by_name_only(self):
        with self.assertRaises(TypeError):
            Kind("total", ["sum"], True)

    def test_name_that_is_no_word(self):
        for name in no_words():
            self.check_bad_word(name, ["limit"])

    def test_bad_word_ahead_of_bad_field(self):
        for fields in [[], ["limit", "limit"], [None], "limit", None, Fields(["limit"])]:
            self.check_bad_word("Account", fields)
            self.check_bad_word(["account"], fields)

    def test_no_word_at_each_index(self):
        for thing in no_words():
            for index in range(4):
                for form in [list, tuple]:
                    fields = ["a", "b", "c"]
                    fields.insert(index, thing)
                    self.check_bad_field(index, form(fields))

    def test_field_twice(self):
        self.check_bad_field(1, ["a", "a"])
        self.check_bad_field(2, ["a", "b", "a"])
        self.check_bad_field(2, ("a", "b", "b", "a"))
        self.check_bad_field(3, ["a", "b", "c", "b"])

    def test_fifth_field(self):
        self.check_bad_field(4, ["a", "b", "c", "d", "e"])
        self.check_bad_field(4, ["a", "b", "c", "d", "e", "f", None])
        self.check_bad_field(4, ("a", "b", "c", "d", "a"))
        self.check_bad_field(4, ["a", "b", "c", "d", None])

    def test_first_of_several(self):
        self.check_bad_field(1, ["a", "a", "b", None, "c"])
        self.check_bad_field(1, ["a", None, "a", "b", "c"])
        self.check_bad_field(3, ["a", "b", "c", "c", "d"])

    def test_no_field(self):
        self.check_bad_field(0, [])
        self.check_bad_field(0, ())

    def test_fields_that_are_no_list(self):
        for thing in [*no_lists(), Fields(["limit"]), Fields([]), account().fields()]:
            self.check_bad_field(0, thing)

    def test_list_that_was_passed(self):
        fields = ["owner", "limit"]
        kind = Kind("account", fields)
        self.assertEqual(fields, ["owner", "limit"])
        fields.append("more")
        fields[0] = None
        self.assertEqual(kind.fields().words(), ["limit", "owner"])
        kind.fields().words().append("more")
        self.assertEqual(kind.fields().words(), ["limit", "owner"])


class EqualKinds(unittest.TestCase):
    def test_equal_if_name_fields_and_single_are(self):
        parts = list(itertools.product(["a", "b"], [("x",), ("y",), ("x", "y")], [False, True]))
        for one in parts:
            for other in parts:
                left = Kind(one[0], one[1], single=one[2])
                right = Kind(other[0], other[1][::-1], single=other[2])
                self.assertIs(left == right, one == other)
                self.assertIs(left != right, one != other)

    def test_equals_nothing_else(self):
        for thing in ["account", ["limit", "owner"], ("account", ["limit", "owner"]), Fields(["limit", "owner"]),
                      None, 0, True, {}, bank(), Schema([account()])]:
            self.assertIs(account() == thing, False)
            self.assertIs(thing == account(), False)
            self.assertIs(account() != thing, True)


class MakingSchemas(unittest.TestCase):
    def check_bad_kind(self, index, kinds):
        with self.assertRaises(BadKind) as context:
            Schema(kinds)
        self.assertEqual(context.exception.index, index)

    def kinds(self, names):
        return [Kind(name, ["x"]) for name in names]

    def test_one_to_four_kinds(self):
        for many in range(1, 5):
            for names in itertools.permutations(["d", "a", "c", "b"], many):
                for form in [list, tuple]:
                    schema = Schema(form(self.kinds(names)))
                    self.assertEqual(schema.names(), list(names))
                    self.assertEqual(len(schema), many)

    def test_argument_by_name(self):
        self.assertEqual(Schema(kinds=[total(), account()]).names(), ["total", "account"])

    def test_no_kind_at_each_index(self):
        for thing in [*no_words(), "a", "account", ("account", ["limit"]), [account()]]:
            if isinstance(thing, Kind):
                continue
            for index in range(4):
                for form in [list, tuple]:
                    kinds = self.kinds("abc")
                    kinds.insert(index, thing)
                    self.check_bad_kind(index, form(kinds))

    def test_name_of_an_earlier_kind(self):
        self.check_bad_kind(1, self.kinds("aa"))
        self.check_bad_kind(3, self.kinds("abca"))
        self.check_bad_kind(2, tuple(self.kinds("abb")))
        self.check_bad_kind(1, [Kind("a", ["x"]), Kind("a", ["y", "z"], single=True)])
        kind = account()
        self.check_bad_kind(1, [kind, kind])

    def test_fifth_kind(self):
        self.check_bad_kind(4, self.kinds("abcde"))
        self.check_bad_kind(4, self.kinds("abcdaf"))
        self.check_bad_kind(4, self.kinds("abcd") + [None, 1])

    def test_first_of_several(self):
        self.check_bad_kind(1, [account(), account(), None])
        self.check_bad_kind(0, [None, account(), account()])

    def test_empty_list(self):
        self.check_bad_kind(0, [])
        self.check_bad_kind(0, ())

    def test_no_list(self):
        for thing in [*no_lists(), Fields(["a"]), Fields([])]:
            self.check_bad_kind(0, thing)

    def test_list_that_was_passed(self):
        kinds = [account(), total()]
        schema = Schema(kinds)
        self.assertEqual(kinds, [account(), total()])
        kinds.append(Kind("more", ["x"]))
        kinds[0] = None
        self.assertEqual(schema.names(), ["account", "total"])
        self.assertEqual(len(schema), 2)
        self.assertEqual(schema, bank())

    def test_returned_list_is_new(self):
        schema = bank()
        names = schema.names()
        self.assertIs(type(names), list)
        names.append("more")
        names[0] = "other"
        self.assertEqual(schema.names(), ["account", "total"])


class AskingSchemas(unittest.TestCase):
    def test_getting_an_item(self):
        self.assertEqual(bank()["account"], account())
        self.assertEqual(bank()["total"], total())

    def test_unknown_kind_holds_the_very_object(self):
        things = [thing for thing in any_objects() if thing != "account"]
        for thing in [*things, "accoun", "accounts", "limit", "", ["total"], 0, 1, -1]:
            with self.assertRaises(UnknownKind) as context:
                bank()[thing]
            self.assertIs(context.exception.name, thing)

    def test_in(self):
        self.assertIs("account" in bank(), True)
        self.assertIs("total" in bank(), True)
        for thing in ["accoun", "accounts", "Account", "limit", "", 0, 1]:
            self.assertIs(thing in bank(), False)

    def test_in_of_any_object(self):
        for thing in any_objects():
            self.assertIs(thing in bank(), isinstance(thing, str) and thing == "account")

    def test_equal_if_the_lists_of_kinds_are(self):
        kinds = [Kind("a", ["x"]), Kind("a", ["y"]), Kind("b", ["x"]), Kind("b", ["x"], single=True)]
        lists = [list(some) for many in [1, 2] for some in itertools.permutations(kinds, many)]
        lists = [some for some in lists if len(some) == 1 or some[0].name != some[1].name]
        for one in lists:
            for other in lists:
                self.assertIs(Schema(one) == Schema(tuple(other)), one == other)
                self.assertIs(Schema(one) != Schema(tuple(other)), one != other)

    def test_equality_looks_at_the_order(self):
        self.assertIs(Schema([account(), total()]) == Schema([total(), account()]), False)

    def test_equals_nothing_else(self):
        for thing in [[account()], (account(),), account(), ["account"], "account", None, 1, True, {},
                      Fields(["account"])]:
            self.assertIs(Schema([account()]) == thing, False)
            self.assertIs(thing == Schema([account()]), False)
            self.assertIs(Schema([account()]) != thing, True)


class Resources(unittest.TestCase):
    def test_pairs_as_tuples_and_as_lists(self):
        for number in [0, 1, 2, 7, 10 ** 9, 10 ** 40 - 1]:
            self.assertIs(bank().is_resource(("account", number)), True)
            self.assertIs(bank().is_resource(["account", number]), True)

    def test_argument_by_name(self):
        self.assertIs(bank().is_resource(thing=("account", 0)), True)

    def test_number_that_is_no_integer_from_0_on(self):
        for number in [-1, -2, -10 ** 39, True, False, None, "0", "", [0], (0,), {}, Fields(["a"]), account()]:
            for name in ["account", "total"]:
                self.assertIs(bank().is_resource((name, number)), False)
                self.assertIs(bank().is_resource([name, number]), False)

    def test_single_kind_has_only_the_number_0(self):
        self.assertIs(bank().is_resource(("total", 0)), True)
        self.assertIs(bank().is_resource(["total", 0]), True)
        for number in [1, 2, 10 ** 39, -1]:
            self.assertIs(bank().is_resource(("total", number)), False)
            self.assertIs(bank().is_resource(["total", number]), False)

    def test_unknown_kind(self):
        for name in ["accoun", "accounts", "Account", "limit", "", *no_words()]:
            self.assertIs(bank().is_resource((name, 0)), False)
            self.assertIs(bank().is_resource([name, 0]), False)
        self.assertIs(Schema([total()]).is_resource(("account", 0)), False)

    def test_item_too_few_or_too_many(self):
        for thing in [(), ("account",), ("account", 0, 0), ("account", 0, "total"), ("total", 0, None), (0,)]:
            self.assertIs(bank().is_resource(thing), False)
            self.assertIs(bank().is_resource(list(thing)), False)

    def test_any_object(self):
        resources = [("account", 0), ["account", 0]]
        for thing in [*any_objects(), *no_lists(), (0, "account"), "ab", {"account": 0, "total": 0},
                      (account(), 0), (["account", 0], ["account", 1]), [("account", 0)]]:
            self.assertIs(bank().is_resource(thing), thing in resources)

    def test_thing_is_not_changed(self):
        thing = ["account", 3]
        bank().is_resource(thing)
        self.assertEqual(thing, ["account", 3])


if __name__ == "__main__":
    unittest.main()
