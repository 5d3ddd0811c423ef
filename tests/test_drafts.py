"""Drafts: point 15 of the document, and 3 to 5 and 46 as far as they concern it."""

import itertools
import unittest

from seenmarks.drafts import Draft
from seenmarks.errors import BadResource, BadTag, BadValue, BadWord, NoWrite
from seenmarks.tags import Tag
from tests.samples import any_objects, no_integers, no_resource_pairs, no_words

ACCOUNT = ("account", 1)
TOTAL = ("total", 0)
PLACES = list(itertools.product([ACCOUNT, ("account", 0), TOTAL], ["limit", "owner", "sum"]))


def other_keys():
    """Pairs of which no draft has a write, whatever was put."""
    resources = [*no_resource_pairs(), "account", None]
    return [*[(resource, "limit") for resource in resources], *[(ACCOUNT, field) for field in no_words()],
            ("account", 1), (None, None), ("limit", ACCOUNT), ([ACCOUNT], "limit"), (("account", True), "limit")]


class DraftCase(unittest.TestCase):
    def check_draft(self, draft, writes, tags):
        """All that a draft tells is what these writes, a dict, and these tags say."""
        self.assertEqual(draft.writes(), sorted((*place, value) for place, value in writes.items()))
        self.assertEqual(len(draft), len(writes))
        self.assertEqual([id(tag) for tag in draft.tags()], [id(tag) for tag in tags])
        self.assertIsNone(draft.label)
        for place in PLACES:
            resource, field = place
            self.assertIs(place in draft, place in writes)
            self.assertIs((list(resource), field) in draft, place in writes)
            if place in writes:
                self.assertEqual(draft[resource, field], writes[place])
                self.assertEqual(draft[list(resource), field], writes[place])
            else:
                self.check_no_write(resource, field, lambda: draft[resource, field])

    def check_no_write(self, resource, field, call):
        with self.assertRaises(NoWrite) as context:
            call()
        self.assertIs(context.exception.resource, resource)
        self.assertIs(context.exception.field, field)


class Writes(DraftCase):
    def test_new_draft_is_empty(self):
        self.check_draft(Draft(), {}, [])

    def test_writes_put_in_any_order_are_ascending(self):
        places = [(("b", 0), "a"), (("a", 10), "b"), (("a", 9), "b"), (("a", 9), "a"), (("aa", 0), "a")]
        for some in itertools.permutations(places):
            draft = Draft()
            for value, (resource, field) in enumerate(some):
                draft[resource, field] = value
            self.assertEqual([write[:2] for write in draft.writes()],
                             [(("a", 9), "a"), (("a", 9), "b"), (("a", 10), "b"), (("aa", 0), "a"), (("b", 0), "a")])
            for resource, field, value in draft.writes():
                self.assertEqual(some[value], (resource, field))

    def test_values(self):
        for value in [0, 1, -1, 10 ** 40 - 1, 1 - 10 ** 40]:
            draft = Draft()
            draft[ACCOUNT, "limit"] = value
            self.check_draft(draft, {(ACCOUNT, "limit"): value}, [])

    def test_a_write_is_put_anew_through_lists_too(self):
        for first, second in itertools.product([tuple, list], repeat=2):
            draft = Draft()
            draft[first(ACCOUNT), "limit"] = 5
            draft[second(ACCOUNT), "limit"] = 6
            self.check_draft(draft, {(ACCOUNT, "limit"): 6}, [])
            draft[second(ACCOUNT), "limit"] = 6
            self.check_draft(draft, {(ACCOUNT, "limit"): 6}, [])

    def test_key_that_is_a_list(self):
        draft = Draft()
        draft[[list(ACCOUNT), "limit"]] = 5
        self.assertEqual(draft[[ACCOUNT, "limit"]], 5)
        self.assertIs([ACCOUNT, "limit"] in draft, True)
        self.assertIs([TOTAL, "sum"] in draft, False)
        self.check_draft(draft, {(ACCOUNT, "limit"): 5}, [])

    def test_drop(self):
        for form in [tuple, list]:
            draft = Draft()
            draft[ACCOUNT, "limit"], draft[ACCOUNT, "owner"] = 5, 6
            self.assertIsNone(draft.drop(form(ACCOUNT), "limit"))
            self.check_draft(draft, {(ACCOUNT, "owner"): 6}, [])
            draft[ACCOUNT, "limit"] = 7
            self.check_draft(draft, {(ACCOUNT, "owner"): 6, (ACCOUNT, "limit"): 7}, [])
            draft.drop(field="owner", resource=form(ACCOUNT))
            draft.drop(ACCOUNT, "limit")
            self.check_draft(draft, {}, [])

    def test_drop_twice(self):
        draft = Draft()
        draft[ACCOUNT, "limit"] = 5
        draft.drop(ACCOUNT, "limit")
        resource, field = ["account", 1], "limit"
        self.check_no_write(resource, field, lambda: draft.drop(resource, field))

    def test_most_writes(self):
        draft = Draft()
        writes = {}
        for number in range(40, 0, -1):
            resource = ("account", number * 10 ** 38 - 1)
            draft[resource, "limit"] = writes[resource, "limit"] = -number
        self.check_draft(draft, writes, [])

    def test_drafts_are_apart(self):
        one, other = Draft(), Draft()
        one[ACCOUNT, "limit"] = 5
        one.require(Tag(ACCOUNT, [], 0))
        self.check_draft(other, {}, [])


class Wrong(DraftCase):
    def setUp(self):
        self.draft = Draft()
        self.draft[ACCOUNT, "limit"] = 5
        self.tag = Tag(ACCOUNT, ["limit"], 1)
        self.draft.require(self.tag)

    def tearDown(self):
        self.check_draft(self.draft, {(ACCOUNT, "limit"): 5}, [self.tag])

    def check_bad_resource(self, resource, field, value):
        with self.assertRaises(BadResource) as context:
            self.draft[resource, field] = value
        self.assertIs(context.exception.resource, resource)

    def check_bad_word(self, field, value):
        with self.assertRaises(BadWord) as context:
            self.draft[ACCOUNT, field] = value
        self.assertIs(context.exception.word, field)

    def check_bad_value(self, value):
        for field in ["limit", "owner"]:
            with self.assertRaises(BadValue) as context:
                self.draft[ACCOUNT, field] = value
            self.assertIs(context.exception.value, value)

    def test_bad_resource(self):
        for thing in no_resource_pairs():
            self.check_bad_resource(thing, "limit", 6)

    def test_bad_word(self):
        for thing in no_words():
            self.check_bad_word(thing, 6)

    def test_bad_value(self):
        for thing in no_integers():
            self.check_bad_value(thing)

    def test_bad_resource_ahead_of_bad_word_ahead_of_bad_value(self):
        for field in ["limit", "", None, ["limit"]]:
            for value in [0, True, None, "0"]:
                self.check_bad_resource(("account", True), field, value)
                self.check_bad_resource(["account", -1], field, value)
                if field != "limit":
                    self.check_bad_word(field, value)

    def test_no_write_of_any_objects(self):
        for resource, field in other_keys():
            self.check_no_write(resource, field, lambda: self.draft[resource, field])
            self.check_no_write(resource, field, lambda: self.draft.drop(resource, field))
            self.assertIs((resource, field) in self.draft, False)

    def test_no_write_of_any_two_objects(self):
        for resource, field in itertools.product(any_objects(), any_objects()):
            self.check_no_write(resource, field, lambda: self.draft[resource, field])
            self.check_no_write(resource, field, lambda: self.draft.drop(resource, field))
            self.assertIs((resource, field) in self.draft, False)

    def test_no_write_holds_the_very_objects_of_another_place(self):
        for resource, field in [(["account", 1], "owner"), (("account", 2), "limit"), (["total", 0], "limit")]:
            self.check_no_write(resource, field, lambda: self.draft[resource, field])
            self.check_no_write(resource, field, lambda: self.draft.drop(resource, field))
            self.assertIs((resource, field) in self.draft, False)

    def test_in_of_objects_that_are_no_pairs(self):
        for thing in [*any_objects(), (ACCOUNT,), (ACCOUNT, "limit", 5), [ACCOUNT], "limit", ACCOUNT]:
            self.assertIs(thing in self.draft, False)

    def test_bad_tag(self):
        for thing in [*any_objects(), self.tag.text(), [self.tag], (ACCOUNT, ["limit"], 1), Draft()]:
            if type(thing) is not Tag:
                with self.assertRaises(BadTag) as context:
                    self.draft.require(thing)
                self.assertIs(context.exception.thing, thing)


class Tags(DraftCase):
    def test_tags_in_the_order_in_which_they_were_added(self):
        tags = [Tag(ACCOUNT, ["limit"], 1), Tag(TOTAL, [], 0), Tag(ACCOUNT, ["limit"], 0), Tag(ACCOUNT, ["limit"], 1)]
        for some in itertools.product(tags, repeat=3):
            draft = Draft()
            for number, tag in enumerate(some):
                self.assertIsNone(draft.require(tag))
                self.check_draft(draft, {}, some[:number + 1])

    def test_argument_by_name(self):
        draft, tag = Draft(), Tag(ACCOUNT, [], 0)
        draft.require(tag=tag)
        self.check_draft(draft, {}, [tag])

    def test_most_tags(self):
        draft, tag = Draft(), Tag(ACCOUNT, ["limit"], 1)
        for number in range(40):
            draft.require(tag)
        self.check_draft(draft, {}, [tag] * 40)


class Unchanged(DraftCase):
    def test_resource_that_was_passed(self):
        draft, resource = Draft(), ["account", 1]
        draft[resource, "limit"] = 5
        self.assertEqual(resource, ["account", 1])
        resource[1] = 2
        self.check_draft(draft, {(ACCOUNT, "limit"): 5}, [])
        resource.append(None)
        self.check_draft(draft, {(ACCOUNT, "limit"): 5}, [])

    def test_returned_lists_are_new(self):
        draft, tag = Draft(), Tag(ACCOUNT, [], 0)
        draft[ACCOUNT, "limit"] = 5
        draft.require(tag)
        for returned in [draft.writes(), draft.tags()]:
            self.assertIs(type(returned), list)
            returned.append(returned[0])
            returned[0] = None
        self.check_draft(draft, {(ACCOUNT, "limit"): 5}, [tag])

    def test_returned_lists_stay(self):
        draft, tag = Draft(), Tag(ACCOUNT, [], 0)
        draft[ACCOUNT, "limit"] = 5
        draft.require(tag)
        writes, tags = draft.writes(), draft.tags()
        draft[ACCOUNT, "limit"] = 6
        draft[TOTAL, "sum"] = 7
        draft.require(tag)
        self.assertEqual((writes, len(tags)), ([(ACCOUNT, "limit", 5)], 1))

    def test_writes_are_tuples_of_tuples(self):
        draft = Draft()
        draft[["account", 1], "limit"] = 5
        self.assertIs(type(draft.writes()[0]), tuple)
        self.assertIs(type(draft.writes()[0][0]), tuple)


class Sequences(DraftCase):
    """Every method after every other, three at a time, beside a dict and a list that do the same."""

    def calls(self):
        tag = Tag(ACCOUNT, ["limit"], 1)
        return [
            lambda draft, writes, tags: self.put_both(draft, writes, list(ACCOUNT), "limit", 5),
            lambda draft, writes, tags: self.put_both(draft, writes, ACCOUNT, "limit", -6),
            lambda draft, writes, tags: self.put_both(draft, writes, TOTAL, "limit", 10 ** 39),
            lambda draft, writes, tags: self.put_wrong(BadResource, draft, ("account", True), "limit", 7),
            lambda draft, writes, tags: self.put_wrong(BadWord, draft, ACCOUNT, "Limit", 7),
            lambda draft, writes, tags: self.put_wrong(BadValue, draft, ACCOUNT, "limit", True),
            lambda draft, writes, tags: self.drop_both(draft, writes, list(ACCOUNT), "limit"),
            lambda draft, writes, tags: self.drop_both(draft, writes, TOTAL, "limit"),
            lambda draft, writes, tags: self.drop_both(draft, writes, None, ["limit"]),
            lambda draft, writes, tags: self.require_both(draft, tags, tag),
            lambda draft, writes, tags: self.require_both(draft, tags, Tag(TOTAL, [], 0)),
            lambda draft, writes, tags: self.require_wrong(draft),
            lambda draft, writes, tags: draft.writes().append(None),
            lambda draft, writes, tags: draft.tags().append(None),
        ]

    def put_both(self, draft, writes, resource, field, value):
        draft[resource, field] = value
        writes[tuple(resource), field] = value

    def put_wrong(self, error, draft, resource, field, value):
        with self.assertRaises(error):
            draft[resource, field] = value

    def drop_both(self, draft, writes, resource, field):
        if resource is not None and (tuple(resource), field) in writes:
            draft.drop(resource, field)
            del writes[tuple(resource), field]
        else:
            self.check_no_write(resource, field, lambda: draft.drop(resource, field))

    def require_both(self, draft, tags, tag):
        draft.require(tag)
        tags.append(tag)

    def require_wrong(self, draft):
        with self.assertRaises(BadTag):
            draft.require("account 1 limit 1")

    def test_three_calls_in_all_orders(self):
        for calls in itertools.product(self.calls(), repeat=3):
            draft, writes, tags = Draft(), {}, []
            for call in calls:
                call(draft, writes, tags)
            self.check_draft(draft, writes, tags)


if __name__ == "__main__":
    unittest.main()
