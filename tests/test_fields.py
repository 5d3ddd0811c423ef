"""Fields: points 6 and 7 of the document, and 3 to 5 as far as they concern it."""

import itertools
import operator
import unittest

from seenmarks.errors import BadField
from seenmarks.fields import Fields
from tests.samples import account, any_objects, bank, no_lists, no_words

OPERATORS = [operator.or_, operator.and_, operator.sub, operator.xor]
METHODS = [Fields.within, Fields.meets]
FORMS = [Fields, list, tuple]


def subsets(words):
    return [list(some) for many in range(len(words) + 1) for some in itertools.combinations(words, many)]


class BadFieldCase(unittest.TestCase):
    def check_bad_field(self, index, call, *things):
        with self.assertRaises(BadField) as context:
            call(*things)
        self.assertEqual(context.exception.index, index, things)
        self.assertIs(type(context.exception.index), int)


class Making(BadFieldCase):
    def test_words_in_any_order_and_several_times(self):
        for form in FORMS:
            for words in itertools.product(["b", "a", "owner"], repeat=4):
                self.assertEqual(Fields(form(words)).words(), sorted(set(words)))

    def test_no_words(self):
        for form in FORMS:
            self.assertEqual(Fields(form([])).words(), [])

    def test_words_of_one_to_eight_letters_and_all_letters(self):
        words = ["abcdefgh", "ijklmnop", "qrstuvwx", "yz", "a", "z"]
        self.assertEqual(Fields(words).words(), sorted(words))
        for many in range(1, 9):
            self.assertEqual(Fields(["z" * many]).words(), ["z" * many])

    def test_ascending_as_strings(self):
        self.assertEqual(Fields(["b", "ab", "a", "aa", "aab"]).words(), ["a", "aa", "aab", "ab", "b"])

    def test_many_words(self):
        words = [a + b + c for a in "abcdefghij" for b in "abcdefghij" for c in "abcdefghij"]
        self.assertEqual(Fields(words[::-1] + words).words(), words)

    def test_argument_by_name(self):
        self.assertEqual(Fields(words=["b", "a"]).words(), ["a", "b"])

    def test_no_word_at_each_index(self):
        for thing in no_words():
            for index in range(4):
                for form in [list, tuple]:
                    words = ["a", "b", "a"]
                    words.insert(index, thing)
                    self.check_bad_field(index, Fields, form(words))

    def test_first_index_of_several(self):
        self.check_bad_field(1, Fields, ["a", None, "b", "A", ""])
        self.check_bad_field(0, Fields, ["ninewords", True])
        self.check_bad_field(2, Fields, ("z", "y", 3, "x", 3))

    def test_neither_list_nor_fields(self):
        for thing in no_lists():
            self.check_bad_field(0, Fields, thing)


class Asking(unittest.TestCase):
    def test_length(self):
        for words in subsets(["a", "b", "c", "owner"]):
            self.assertEqual(len(Fields(words)), len(words))
            self.assertEqual(len(Fields(words + words)), len(words))

    def test_truth(self):
        self.assertIs(bool(Fields([])), False)
        self.assertIs(bool(Fields(["a"])), True)
        self.assertIs(bool(Fields(["a", "b"])), True)

    def test_in(self):
        fields = Fields(["limit", "owner"])
        for word in ["limit", "owner"]:
            self.assertIs(word in fields, True)
        for word in ["", "l", "lim", "limi", "limits", "Limit", "limit ", "limit,owner", "sum"]:
            self.assertIs(word in fields, False)

    def test_in_of_any_object(self):
        fields = Fields(["limit", "owner"])
        for thing in any_objects():
            self.assertIs(thing in fields, isinstance(thing, str) and thing in ["limit", "owner"])
            self.assertIs(thing in Fields([]), False)

    def test_equal(self):
        for one in subsets(["a", "b", "c"]):
            for other in subsets(["a", "b", "c"]):
                self.assertIs(Fields(one) == Fields(other[::-1] + other), one == other)
                self.assertIs(Fields(one) != Fields(other[::-1] + other), one != other)

    def test_equals_nothing_else(self):
        for fields in [Fields([]), Fields(["a"]), Fields(["limit", "owner"])]:
            for thing in [*no_lists(), [], (), ["a"], ("a",), ["limit", "owner"], fields.words(), "a"]:
                self.assertIs(fields == thing, False)
                self.assertIs(thing == fields, False)
                self.assertIs(fields != thing, True)


class Unchanged(unittest.TestCase):
    def test_list_that_was_passed(self):
        words = ["b", "a", "b"]
        fields = Fields(words)
        self.assertEqual(words, ["b", "a", "b"])
        words.append("c")
        words[0] = None
        self.assertEqual(fields.words(), ["a", "b"])

    def test_returned_list_is_new(self):
        fields = Fields(["b", "a"])
        words = fields.words()
        self.assertIs(type(words), list)
        words.append("c")
        words.remove("a")
        self.assertEqual(fields.words(), ["a", "b"])
        self.assertEqual(Fields(fields).words(), ["a", "b"])


class Operators(BadFieldCase):
    def check_result(self, result, words):
        self.assertIs(type(result), Fields)
        self.assertEqual(result.words(), words)

    def pairs(self):
        """All pairs of sets of three fields, the words in descending order and one of them twice."""
        sets = [some[::-1] + some[:1] for some in subsets(["a", "b", "c"])]
        return list(itertools.product(sets, sets))

    def test_each_operator_with_each_form_on_either_side(self):
        for call in OPERATORS:
            for one, other in self.pairs():
                words = sorted(call(set(one), set(other)))
                for form in FORMS:
                    self.check_result(call(Fields(one), form(other)), words)
                    self.check_result(call(form(one), Fields(other)), words)

    def test_in_place_signs_make_a_new_object(self):
        for call, words in [(operator.ior, ["a", "b", "c"]), (operator.iand, ["b"]),
                            (operator.isub, ["a"]), (operator.ixor, ["a", "c"])]:
            fields = Fields(["a", "b"])
            self.check_result(call(fields, ["c", "b"]), words)
            self.assertEqual(fields.words(), ["a", "b"])

    def test_within_and_meets(self):
        for one, other in self.pairs():
            for form in FORMS:
                self.assertIs(Fields(one).within(form(other)), set(one) <= set(other))
                self.assertIs(Fields(one).meets(form(other)), bool(set(one) & set(other)))
                self.assertIs(Fields(one).within(other=form(other)), set(one) <= set(other))
                self.assertIs(Fields(one).meets(other=form(other)), bool(set(one) & set(other)))

    def test_operands_are_not_changed(self):
        for call in OPERATORS + METHODS:
            one, other, words = Fields(["b", "a"]), Fields(["c", "b"]), ["c", "b", "c"]
            call(one, other)
            call(one, words)
            self.assertEqual((one.words(), other.words(), words), (["a", "b"], ["b", "c"], ["c", "b", "c"]))
        for call in OPERATORS:
            call(words, one)
            self.assertEqual((one.words(), words), (["a", "b"], ["c", "b", "c"]))

    def test_results_do_not_follow_later_changes(self):
        for call in OPERATORS:
            words = ["c", "b"]
            right, left = call(Fields(["a", "b"]), words), call(words, Fields(["a", "b"]))
            before = (right.words(), left.words())
            words.append("z")
            right.words().append("y")
            self.assertEqual((right.words(), left.words()), before)

    def test_no_word_at_each_index_on_either_side(self):
        for thing in no_words():
            for index in range(3):
                words = ["b", "z"]
                words.insert(index, thing)
                for form in [list, tuple]:
                    self.check_bad_operand(index, form(words))

    def test_first_index_of_several(self):
        self.check_bad_operand(1, ["a", None, "B", "c"])
        self.check_bad_operand(0, [["a"], True])

    def test_neither_list_nor_fields_on_either_side(self):
        for thing in no_lists():
            self.check_bad_operand(0, thing)

    def check_bad_operand(self, index, operand):
        for fields in [Fields([]), Fields(["a", "b"])]:
            words = fields.words()
            for call in OPERATORS + METHODS:
                self.check_bad_field(index, call, fields, operand)
            for call in OPERATORS:
                self.check_bad_field(index, call, operand, fields)
            self.assertEqual(fields.words(), words)


class FieldsOfKinds(BadFieldCase):
    def test_fields_of_a_kind_are_a_field_set(self):
        self.assertEqual((account().fields() - ["owner"]).words(), ["limit"])
        self.assertIs(Fields(["limit"]).within(account().fields()), True)

    def test_kinds_and_schemas_are_no_field_sets(self):
        for thing in [account(), bank()]:
            self.check_bad_field(0, operator.or_, thing, account().fields())


if __name__ == "__main__":
    unittest.main()
