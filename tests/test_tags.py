"""Tags: point 14 of the document, and 3 to 5 and 46 as far as they concern it."""

import itertools
import re
import unittest

from seenmarks.errors import BadCount, BadField, BadResource, BadText
from seenmarks.fields import Fields
from seenmarks.tags import Tag
from tests.samples import any_objects, no_integers, no_lists, no_resource_pairs, no_words

NUMBERS = [0, 1, 9, 10, 17, 100, 10 ** 9, 10 ** 39, 10 ** 40 - 1]
COVERS = [[], ["a"], ["limit"], ["abcdefgh"], ["limit", "owner"], ["a", "aa", "ab", "b"],
          ["color", "name", "price", "stock"]]
SIGNS = [chr(code) for code in range(32, 127)] + ["\n"]


def digits(many):
    """A number of so many digits."""
    return int("1234567890" * 4) // 10 ** (40 - many)


def is_tag_text(text):
    """Tell whether a tag has this text, by the words of the document alone."""
    number = "(?:0|[1-9][0-9]*)"
    match = re.fullmatch(f"[a-z]{{1,8}} {number} (-|[a-z]{{1,8}}(?:,[a-z]{{1,8}})*) {number}", text)
    if match is None:
        return False
    words = match[1].split(",")
    return all(one < other for one, other in itertools.pairwise(words))


class TagCase(unittest.TestCase):
    def check_tag(self, tag, resource, words, count):
        self.assertIs(type(tag), Tag)
        self.assertIs(type(tag.resource), tuple)
        self.assertEqual(tag.resource, resource)
        self.assertIs(type(tag.cover()), Fields)
        self.assertEqual(tag.cover().words(), words)
        self.assertIs(type(tag.count), int)
        self.assertEqual(tag.count, count)


class Making(TagCase):
    def test_all_forms_of_resources_and_covers(self):
        for resource_form in [tuple, list]:
            for cover_form in [tuple, list, Fields]:
                for words in COVERS:
                    for number in NUMBERS:
                        tag = Tag(resource_form(["account", number]), cover_form(words[::-1] + words), number)
                        self.check_tag(tag, ("account", number), words, number)

    def test_kinds_of_one_to_eight_letters(self):
        for many in range(1, 9):
            self.check_tag(Tag(("z" * many, 0), [], 0), ("z" * many, 0), [], 0)

    def test_arguments_by_name(self):
        self.check_tag(Tag(count=2, cover=("b", "a"), resource=["x", 1]), ("x", 1), ["a", "b"], 2)

    def test_lists_that_were_passed(self):
        resource, cover = ["account", 3], ["owner", "limit", "owner"]
        tag = Tag(resource, cover, 17)
        self.assertEqual((resource, cover), (["account", 3], ["owner", "limit", "owner"]))
        resource[1] = 4
        resource.append(None)
        cover.append("more")
        cover[0] = None
        tag.cover().words().append("more")
        self.check_tag(tag, ("account", 3), ["limit", "owner"], 17)


class Wrong(TagCase):
    def check_bad_resource(self, resource, cover, count):
        with self.assertRaises(BadResource) as context:
            Tag(resource, cover, count)
        self.assertIs(context.exception.resource, resource)

    def check_bad_field(self, index, cover, count):
        with self.assertRaises(BadField) as context:
            Tag(("account", 0), cover, count)
        self.assertEqual(context.exception.index, index)

    def check_bad_count(self, count):
        with self.assertRaises(BadCount) as context:
            Tag(("account", 0), ["limit"], count)
        self.assertIs(context.exception.count, count)

    def test_no_pair_of_a_word_and_an_integer_from_0_on(self):
        for thing in no_resource_pairs():
            self.check_bad_resource(thing, ["limit"], 0)

    def test_bad_resource_of_any_object(self):
        for thing in any_objects():
            if thing not in [("account", 0), ["account", 0]]:
                self.check_bad_resource(thing, [], 0)

    def test_no_word_at_each_index(self):
        for thing in no_words():
            for index in range(3):
                for form in [list, tuple]:
                    cover = ["a", "a"]
                    cover.insert(index, thing)
                    self.check_bad_field(index, form(cover), 0)

    def test_cover_that_is_no_field_set(self):
        for thing in no_lists():
            self.check_bad_field(0, thing, 0)

    def test_no_integer_from_0_on(self):
        for thing in [-1, -2, -10 ** 39, *no_integers()]:
            self.check_bad_count(thing)

    def test_bad_resource_ahead_of_bad_field_ahead_of_bad_count(self):
        for cover in [["a", None], None, "a", [["a"]]]:
            for count in [-1, True, None, "0"]:
                self.check_bad_resource(("account", -1), cover, count)
                self.check_bad_resource(["account", True], cover, 0)
                self.check_bad_field(1 if cover == ["a", None] else 0, cover, count)
        self.check_bad_resource("account", [], None)
        self.check_bad_field(2, ["a", "b", "C", None], True)


class Equality(unittest.TestCase):
    def test_equal_if_resource_cover_and_count_are(self):
        parts = list(itertools.product(["a", "b"], [0, 1], [(), ("x",), ("y",), ("x", "y")], [0, 1]))
        for one, other in itertools.product(parts, parts):
            left = Tag((one[0], one[1]), one[2], one[3])
            right = Tag([other[0], other[1]], Fields(other[2][::-1] + other[2]), other[3])
            self.assertIs(left == right, one == other)
            self.assertIs(left != right, one != other)

    def test_equals_nothing_else(self):
        tag = Tag(("account", 3), ["limit", "owner"], 17)
        for thing in [*any_objects(), tag.text(), (("account", 3), ["limit", "owner"], 17),
                      [("account", 3), Fields(["limit", "owner"]), 17], ("account", 3), 17, tag.cover()]:
            if type(thing) is not Tag:
                self.assertIs(tag == thing, False)
                self.assertIs(thing == tag, False)
                self.assertIs(tag != thing, True)


class Texts(TagCase):
    def check_bad_text(self, text):
        with self.assertRaises(BadText) as context:
            Tag.of_text(text)
        self.assertEqual(context.exception.line, 1)
        self.assertIs(type(context.exception.line), int)

    def check_text(self, text):
        """The text is accepted just if it is one of a tag, and leads back then."""
        if is_tag_text(text):
            self.assertEqual(Tag.of_text(text).text(), text)
        else:
            self.check_bad_text(text)

    def test_examples(self):
        for resource, cover, count, text in [
            (("account", 3), ["owner", "limit"], 17, "account 3 limit,owner 17"),
            (("a", 0), [], 0, "a 0 - 0"),
            (("total", 0), ["sum"], 1, "total 0 sum 1"),
            (("abcdefgh", 10 ** 39), ["b", "ab", "a"], 10 ** 39, f"abcdefgh {10 ** 39} a,ab,b {10 ** 39}"),
        ]:
            self.assertEqual(Tag(resource, cover, count).text(), text)
            self.check_tag(Tag.of_text(text), resource, sorted(cover), count)

    def test_text_and_of_text_lead_back_and_forth(self):
        numbers = [0, *[digits(many) for many in range(1, 41)], *NUMBERS]
        for words in COVERS:
            for number, count in zip(numbers, reversed(numbers)):
                tag = Tag(("account", number), words, count)
                self.assertEqual(tag.text(), f"account {number} {','.join(words) or '-'} {count}")
                self.assertEqual(Tag.of_text(tag.text()), tag)
                self.check_tag(Tag.of_text(tag.text()), ("account", number), words, count)

    def test_argument_by_name_and_off_an_object(self):
        tag = Tag.of_text(text="a 0 - 0")
        self.assertEqual(tag.of_text("b 1 c 2"), Tag(("b", 1), ["c"], 2))

    def test_one_sign_changed_put_in_or_left_out(self):
        for text in ["account 3 limit,owner 17", "a 0 - 0", "abcdefgh 10 a,ab,b 90", "total 0 abcdefgh 1"]:
            self.check_text(text)
            for at in range(len(text) + 1):
                self.check_text(text[:at] + text[at + 1:])
                for sign in SIGNS:
                    self.check_text(text[:at] + sign + text[at:])
                    self.check_text(text[:at] + sign + text[at + 1:])

    def test_two_signs_of_a_short_text(self):
        for one, other in itertools.product("0a-, 1Z\n", repeat=2):
            for text in [f"a {one}{other} - 0", f"a 0 - {one}{other}", f"a 0 {one}{other} 0", f"{one}{other} 0 - 0",
                         f"a 0{one}{other}- 0", f"a{one}0 -{other}0"]:
                self.check_text(text)

    def test_leading_zeros_and_other_forms_of_numbers(self):
        for number in ["00", "01", "007", "0" * 40, "+1", "-1", "-0", "1.0", "1_0", "0x1", "1e1", "", "x", "-",
                       "\u0663"]:
            self.check_bad_text(f"account {number} limit 0")
            self.check_bad_text(f"account 0 limit {number}")

    def test_words_of_the_cover(self):
        for cover in ["b,a", "a,b,ab", "a,a", "a,b,b", "a,b,a", "owner,limit", "a,", ",a", ",", "a,,b", "a,-", "-,a",
                      "--", "-,-", "", "A", "a,B", "ninewords", "a,ninewords", "a1", "0", "a;b", "a.b"]:
            self.check_bad_text(f"account 0 {cover} 0")

    def test_kind_that_is_no_word(self):
        for name in ["", "-", "0", "A", "Account", "ninewords", "a,b", "account\n", "\naccount"]:
            self.check_bad_text(f"{name} 0 - 0")

    def test_parts_too_few_too_many_or_in_another_order(self):
        for text in ["", " ", "   ", "account", "account 0", "account 0 -", "account 0 0", "account - 0", "0 - 0",
                     "account 0 - 0 0", "account 0 - 0 ", " account 0 - 0", "account  0 - 0", "account 0 -  0",
                     "account 0 - 0\n", "account 0\n- 0", "account 0 limit, owner 0", "account 0 limit owner 0",
                     "0 account - 0", "account - 0 0", "account 0 0 -", "account/0 - 0", "account,0,-,0"]:
            self.check_bad_text(text)

    def test_objects_that_are_no_strings(self):
        for thing in any_objects():
            if not isinstance(thing, str):
                self.check_bad_text(thing)


if __name__ == "__main__":
    unittest.main()
