"""Servers and copies: points 10 to 13, 16 and 17 of the document, and 3 to 5 and 46 as far as they concern them."""

import inspect
import itertools
import random
import unittest

from seenmarks.drafts import Draft
from seenmarks.errors import BadField, BadResource, Rejected, UnknownField, Unlabelled
from seenmarks.fields import Fields
from seenmarks.kinds import Kind, Schema
from seenmarks.servers import Copy, Server
from seenmarks.tags import Tag
from tests.samples import any_objects, bank, covers_of, draft_of, no_lists, no_resource_pairs, no_words, shop

ACCOUNT = ("account", 3)
OTHER = ("account", 4)
TOTAL = ("total", 0)
STRANGERS = [("total", 1), ["total", 10 ** 39], ("accoun", 0), ("accounts", 0), ["limit", 0], ("item", 0)]
LABELS = [("move", (ACCOUNT,), (0,)), ("add", (ACCOUNT, TOTAL), (1, 0)), ("add", (OTHER,), (2,))]


def no_resources():
    """Objects that are no resources of the bank."""
    return [*no_resource_pairs(), *STRANGERS]


class ServerCase(unittest.TestCase):
    def setUp(self):
        self.server = Server(bank())

    def write(self, *writes):
        """Handle an update without tags, which is accepted."""
        return self.server.handle(draft_of(writes))

    def check_copy(self, copy, resource, moment, values):
        self.assertIs(type(copy), Copy)
        self.assertIs(type(copy.resource), tuple)
        self.assertEqual((copy.resource, copy.moment), (resource, moment))
        for field, value in values.items():
            self.assertIs(field in copy, True)
            self.assertIs(type(copy[field]), int)
            self.assertEqual(copy[field], value)

    def check_nothing_handled(self, handled=0):
        self.assertEqual(self.server.handled, handled)
        self.assertEqual(len(self.server.log()), handled)
        self.assertEqual(self.server.read(ACCOUNT).moment, handled)

    def check_rejected(self, draft, number, stale):
        with self.assertRaises(Rejected) as context:
            self.server.handle(draft)
        self.assertEqual(context.exception.number, number)
        self.assertIs(type(context.exception.stale), list)
        self.assertEqual([id(tag) for tag in context.exception.stale], [id(tag) for tag in stale])

    def check_bad_resource(self, resource, call):
        with self.assertRaises(BadResource) as context:
            call()
        self.assertIs(context.exception.resource, resource)

    def check_unknown_field(self, field, call):
        with self.assertRaises(UnknownField) as context:
            call()
        self.assertIs(context.exception.field, field)


class Reading(ServerCase):
    def test_new_server(self):
        schema = bank()
        server = Server(schema=schema)
        self.assertIs(server.schema, schema)
        self.assertEqual((server.handled, server.log(), server.history()), (0, [], []))
        self.assertIs(type(server.handled), int)
        self.assertIs(type(vars(Server)["handled"]), property)

    def test_all_resources_exist_from_the_beginning(self):
        for form in [tuple, list]:
            for read in [self.server.read, self.server.latest]:
                for number in [0, 1, 10 ** 9, 10 ** 40 - 1]:
                    self.check_copy(read(form(["account", number])), ("account", number), 0, {"limit": 0, "owner": 0})
                self.check_copy(read(form(["total", 0])), TOTAL, 0, {"sum": 0})

    def test_argument_by_name(self):
        self.write((ACCOUNT, "limit", 5))
        for copy in [self.server.read(resource=ACCOUNT), self.server.latest(resource=list(ACCOUNT))]:
            self.check_copy(copy, ACCOUNT, 1, {"limit": 5, "owner": 0})

    def test_resource_as_it_is_now(self):
        self.write((ACCOUNT, "limit", 5))
        self.write((ACCOUNT, "owner", -6), (OTHER, "limit", 10 ** 39))
        self.write((ACCOUNT, "limit", 0), (TOTAL, "sum", 7))
        for read in [self.server.read, self.server.latest]:
            self.check_copy(read(ACCOUNT), ACCOUNT, 3, {"limit": 0, "owner": -6})
            self.check_copy(read(OTHER), OTHER, 3, {"limit": 10 ** 39, "owner": 0})
            self.check_copy(read(TOTAL), TOTAL, 3, {"sum": 7})
            self.check_copy(read(("account", 0)), ("account", 0), 3, {"limit": 0, "owner": 0})

    def test_bad_resource(self):
        for thing in no_resources():
            self.check_bad_resource(thing, lambda: self.server.read(thing))
            self.check_bad_resource(thing, lambda: self.server.latest(thing))
        self.check_nothing_handled()

    def test_bad_resource_of_any_object(self):
        for thing in any_objects():
            if thing not in [("account", 0), ["account", 0]]:
                self.check_bad_resource(thing, lambda: self.server.read(thing))
                self.check_bad_resource(thing, lambda: self.server.latest(thing))

    def test_list_that_was_passed(self):
        resource = ["account", 3]
        copy = self.server.read(resource)
        self.assertEqual(resource, ["account", 3])
        resource[1] = 4
        resource.append(None)
        self.check_copy(copy, ACCOUNT, 0, {"limit": 0})
        self.assertEqual(copy.tag(["limit"]), Tag(ACCOUNT, ["limit"], 0))


class Copies(ServerCase):
    def test_copy_stays_while_updates_go_on(self):
        copies = []
        for number in range(6):
            copies.append(self.server.read(ACCOUNT))
            self.write((ACCOUNT, "limit", number + 1), (OTHER, "limit", 9))
            for moment, copy in enumerate(copies):
                self.check_copy(copy, ACCOUNT, moment, {"limit": moment, "owner": 0})
                for cover, count in [(["limit"], moment), (["owner"], 0), (["limit", "owner"], moment), ([], 0)]:
                    self.assertEqual(copy.tag(cover), Tag(ACCOUNT, cover, count))

    def test_copy_of_a_moment_with_rejected_updates(self):
        stale = self.server.read(ACCOUNT).tag(["limit"])
        self.write((ACCOUNT, "limit", 5))
        self.check_rejected(draft_of([(ACCOUNT, "limit", 6)], [stale]), 1, [stale])
        copy = self.server.read(ACCOUNT)
        self.check_copy(copy, ACCOUNT, 2, {"limit": 5, "owner": 0})
        self.assertEqual(copy.tag(["limit"]).count, 1)

    def test_fields_of_a_copy(self):
        account, total = self.server.read(ACCOUNT), self.server.read(TOTAL)
        for copy, words in [(account, ["limit", "owner"]), (total, ["sum"])]:
            for thing in [*any_objects(), "sum", "owner", "lim", "limit,owner", ("limit",)]:
                known = isinstance(thing, str) and thing in words
                self.assertIs(thing in copy, known)
                if known:
                    self.assertEqual(copy[thing], 0)
                else:
                    self.check_unknown_field(thing, lambda: copy[thing])


class TagsOfCopies(ServerCase):
    def test_counts_for_every_cover(self):
        words = ["color", "name", "price", "stock"]
        server = Server(shop())
        written = covers_of(words)
        for number, some in enumerate(written):
            server.handle(draft_of([*[(("item", 5), word, number) for word in some], (("item", 6), "price", 0)]))
        copy = server.read(("item", 5))
        for cover in covers_of(words):
            count = len([some for some in written if set(some) & set(cover)])
            for form in [list, tuple, Fields]:
                self.assertEqual(copy.tag(form(cover[::-1] + cover)), Tag(("item", 5), cover, count))
            self.assertEqual(server.read(("item", 6)).tag(cover).count, len(written) if "price" in cover else 0)
            self.assertEqual(server.read(("item", 7)).tag(cover), Tag(("item", 7), cover, 0))

    def test_an_update_of_two_fields_counts_once(self):
        self.write((ACCOUNT, "limit", 1), (ACCOUNT, "owner", 2))
        self.assertEqual(self.server.read(ACCOUNT).tag(["limit", "owner"]).count, 1)
        self.write((ACCOUNT, "owner", 2))
        copy = self.server.read(ACCOUNT)
        self.assertEqual([copy.tag(cover).count for cover in covers_of(["limit", "owner"])], [0, 1, 2, 2])

    def test_argument_by_name_and_attributes(self):
        self.write((ACCOUNT, "limit", 1))
        tag = self.server.read(ACCOUNT).tag(cover=("owner", "limit"))
        self.assertIs(type(tag), Tag)
        self.assertEqual((tag.resource, tag.cover().words(), tag.count), (ACCOUNT, ["limit", "owner"], 1))
        self.assertIs(type(tag.count), int)

    def test_fields_of_the_kind_are_a_cover(self):
        tag = self.server.read(ACCOUNT).tag(bank()["account"].fields())
        self.assertEqual(tag.text(), "account 3 limit,owner 0")

    def test_bad_field(self):
        copy = self.server.read(ACCOUNT)
        for index, cover in [*[(0, thing) for thing in no_lists()], *[(0, [thing]) for thing in no_words()],
                             *[(2, ("sum", "limit", thing)) for thing in no_words()]]:
            with self.assertRaises(BadField) as context:
                copy.tag(cover)
            self.assertEqual(context.exception.index, index)

    def test_unknown_field_is_the_first_ascending(self):
        copy = self.server.read(ACCOUNT)
        for cover, field in [(["sum"], "sum"), (["limit", "sum", "price"], "price"), (("zzz", "owner", "m"), "m"),
                             (Fields(["sum", "limit"]), "sum"), (["owners", "limits"], "limits")]:
            with self.assertRaises(UnknownField) as context:
                copy.tag(cover)
            self.assertEqual(context.exception.field, field)

    def test_bad_field_ahead_of_unknown_field(self):
        with self.assertRaises(BadField) as context:
            self.server.read(ACCOUNT).tag(["sum", "limit", None])
        self.assertEqual(context.exception.index, 2)

    def test_cover_that_was_passed(self):
        cover = ["owner", "limit"]
        tag = self.server.read(ACCOUNT).tag(cover)
        self.assertEqual(cover, ["owner", "limit"])
        cover.append("sum")
        self.assertEqual(tag.cover().words(), ["limit", "owner"])


class Handling(ServerCase):
    def test_numbers_in_the_order_of_handling(self):
        for number in range(5):
            self.assertEqual(self.server.handled, number)
            self.assertEqual(self.write((ACCOUNT, "limit", number)), number)
        self.assertEqual(self.server.handle(draft=Draft()), 5)
        self.assertEqual(self.server.handled, 6)

    def test_draft_without_tags_or_writes_is_accepted(self):
        self.assertEqual(self.server.handle(Draft()), 0)
        self.assertEqual(self.server.handle(draft_of([], [Tag(ACCOUNT, ["limit"], 0)])), 1)
        self.assertEqual(self.server.log(), [(True, None, []), (True, None, [])])

    def test_all_writes_are_done_at_once(self):
        self.write((ACCOUNT, "limit", 1), (ACCOUNT, "owner", 2), (OTHER, "owner", 3), (TOTAL, "sum", 4))
        self.check_copy(self.server.read(ACCOUNT), ACCOUNT, 1, {"limit": 1, "owner": 2})
        self.check_copy(self.server.read(OTHER), OTHER, 1, {"limit": 0, "owner": 3})
        self.check_copy(self.server.read(TOTAL), TOTAL, 1, {"sum": 4})

    def test_accepted_while_all_tags_are_current(self):
        for number in range(4):
            tags = [self.server.read(ACCOUNT).tag(["limit"]), self.server.read(TOTAL).tag(["sum"])]
            draft = draft_of([(ACCOUNT, "limit", number)], tags)
            self.assertEqual(self.server.handle(draft), number)

    def test_old_tag_is_current_if_only_other_fields_or_resources_were_written(self):
        tags = [self.server.read(ACCOUNT).tag(["limit"]), self.server.read(ACCOUNT).tag([])]
        self.write((ACCOUNT, "owner", 1), (OTHER, "limit", 2), (TOTAL, "sum", 3))
        self.assertEqual(self.server.handle(draft_of([(ACCOUNT, "limit", 4)], tags)), 1)

    def test_a_field_counts_as_written_with_the_value_that_it_has(self):
        stale = self.server.read(ACCOUNT).tag(["limit"])
        self.write((ACCOUNT, "limit", 0))
        self.assertEqual(self.server.read(ACCOUNT).tag(["limit"]).count, 1)
        self.check_rejected(draft_of([], [stale]), 1, [stale])
        self.assertEqual(list(self.server.changes(ACCOUNT)), [(0, [("limit", 0)])])

    def test_rejected_writes_nothing_and_gets_a_number(self):
        stale = self.server.read(ACCOUNT).tag(["limit", "owner"])
        self.write((ACCOUNT, "owner", 1))
        writes = [(ACCOUNT, "limit", 5), (TOTAL, "sum", 6)]
        self.check_rejected(draft_of(writes, [stale]), 1, [stale])
        self.check_rejected(draft_of(writes, [stale]), 2, [stale])
        self.check_copy(self.server.read(ACCOUNT), ACCOUNT, 3, {"limit": 0, "owner": 1})
        self.check_copy(self.server.read(TOTAL), TOTAL, 3, {"sum": 0})
        self.assertEqual(self.server.read(TOTAL).tag(["sum"]).count, 0)
        self.assertEqual(self.write(*writes), 3)

    def test_stale_tags_in_their_order(self):
        current = [self.server.read(TOTAL).tag(["sum"]), self.server.read(ACCOUNT).tag(["owner"])]
        stale = [self.server.read(resource).tag(["limit"]) for resource in [OTHER, ACCOUNT]]
        self.write((ACCOUNT, "limit", 1), (OTHER, "limit", 1))
        for number, tags in enumerate(itertools.product(current + stale, repeat=4)):
            expected = [tag for tag in tags if tag in stale]
            draft = draft_of([], tags)
            if expected:
                self.check_rejected(draft, number + 1, expected)
            else:
                self.assertEqual(self.server.handle(draft), number + 1)

    def test_tags_that_are_ahead_or_made_by_hand(self):
        self.write((ACCOUNT, "limit", 1))
        for cover, count, current in [(["limit"], 0, False), (["limit"], 1, True), (["limit"], 2, False),
                                      (["owner"], 0, True), (["owner"], 1, False), (["limit", "owner"], 1, True),
                                      ([], 0, True), ([], 1, False)]:
            tag = Tag(ACCOUNT, cover, count)
            draft, number = draft_of([], [tag]), self.server.handled
            if current:
                self.assertEqual(self.server.handle(draft), number)
            else:
                self.check_rejected(draft, number, [tag])

    def test_draft_handled_twice_is_two_updates(self):
        tag = self.server.read(ACCOUNT).tag(["owner"])
        draft = draft_of([(ACCOUNT, "limit", 5)], [tag])
        self.assertEqual([self.server.handle(draft), self.server.handle(draft)], [0, 1])
        self.assertEqual(self.server.read(ACCOUNT).tag(["limit"]).count, 2)

    def test_draft_handled_twice_is_rejected_when_it_covers_what_it_writes(self):
        tag = self.server.read(ACCOUNT).tag(["limit"])
        draft = draft_of([(ACCOUNT, "limit", 5)], [tag])
        self.assertEqual(self.server.handle(draft), 0)
        self.check_rejected(draft, 1, [tag])
        self.assertEqual(self.server.read(ACCOUNT).tag(["limit"]).count, 1)

    def test_draft_does_not_change(self):
        tag = self.server.read(ACCOUNT).tag(["limit"])
        draft = draft_of([(TOTAL, "sum", 5), (ACCOUNT, "limit", 6)], [tag, tag], LABELS[0])
        for handled in range(2):
            if handled == 0:
                self.server.handle(draft)
            else:
                self.check_rejected(draft, 1, [tag, tag])
            self.assertEqual(draft.writes(), [(ACCOUNT, "limit", 6), (TOTAL, "sum", 5)])
            self.assertEqual([id(held) for held in draft.tags()], [id(tag), id(tag)])
            self.assertIs(draft.label, LABELS[0])

    def test_draft_that_is_changed_and_handled_again(self):
        draft = draft_of([(ACCOUNT, "limit", 5), (TOTAL, "sum", 1)])
        self.server.handle(draft)
        draft[ACCOUNT, "limit"] = 6
        draft.drop(TOTAL, "sum")
        self.server.handle(draft)
        self.assertEqual(self.server.log(), [(True, None, [(ACCOUNT, "limit", 5), (TOTAL, "sum", 1)]),
                                             (True, None, [(ACCOUNT, "limit", 6)])])
        self.assertEqual(self.server.read(ACCOUNT)["limit"], 6)

    def test_servers_are_apart(self):
        draft = draft_of([(ACCOUNT, "limit", 5)], [self.server.read(ACCOUNT).tag(["limit"])])
        other = Server(bank())
        self.assertEqual([self.server.handle(draft), other.handle(draft)], [0, 0])
        self.assertEqual((self.server.handled, other.handled), (1, 1))

    def test_most_updates_tags_and_writes(self):
        places = [("account", number) for number in range(20)]
        tags = [self.server.read(place).tag([word]) for place in places for word in ["limit", "owner"]]
        stale = draft_of([], tags)
        for number in range(199):
            tags = [self.server.read(place).tag([word]) for place in places for word in ["limit", "owner"]]
            writes = [(place, word, number) for place in places for word in ["limit", "owner"]]
            self.assertEqual(self.server.handle(draft_of(writes, tags)), number)
        self.check_rejected(stale, 199, stale.tags())
        self.assertEqual(self.server.read(places[7]).tag(["limit", "owner"]).count, 199)


class WrongDrafts(ServerCase):
    def check_draft(self, draft, error, attribute, thing):
        """The draft raises this error; nothing is handled, and nothing is changed."""
        handled = self.server.handled
        with self.assertRaises(error) as context:
            self.server.handle(draft)
        self.assertEqual(getattr(context.exception, attribute), thing)
        self.check_nothing_handled(handled)
        self.assertEqual(list(self.server.changes(ACCOUNT)), [(0, [("limit", 1)])] if handled else [])

    def test_resources_that_are_not_of_the_schema(self):
        for resource in STRANGERS:
            place = tuple(resource)
            self.check_draft(draft_of([(resource, "limit", 5)]), BadResource, "resource", place)
            self.check_draft(draft_of([(ACCOUNT, "limit", 5), (resource, "limit", 5)]), BadResource, "resource", place)
            self.check_draft(draft_of([(ACCOUNT, "limit", 5)], [Tag(resource, [], 0)]), BadResource, "resource", place)

    def test_resource_of_a_tag_is_the_very_object(self):
        tag = Tag(["total", 1], ["sum"], 0)
        self.check_bad_resource(tag.resource, lambda: self.server.handle(draft_of([], [tag])))

    def test_fields_that_the_kind_does_not_have(self):
        self.check_draft(draft_of([(ACCOUNT, "sum", 5)]), UnknownField, "field", "sum")
        self.check_draft(draft_of([(ACCOUNT, "limit", 5), (TOTAL, "limit", 5)]), UnknownField, "field", "limit")
        self.check_draft(draft_of([], [Tag(ACCOUNT, ["limit", "sum", "price"], 0)]), UnknownField, "field", "price")

    def test_first_of_several_tags(self):
        tags = [Tag(ACCOUNT, ["limit"], 0), Tag(TOTAL, ["owner", "price"], 0), Tag(("item", 0), [], 0),
                Tag(("total", 1), ["limit"], 0)]
        wrong = {1: (UnknownField, "field", "owner"), 2: (BadResource, "resource", ("item", 0)),
                 3: (BadResource, "resource", ("total", 1))}
        for order in itertools.permutations(range(4)):
            first = [index for index in order if index > 0][0]
            self.check_draft(draft_of([], [tags[index] for index in order]), *wrong[first])

    def test_first_of_several_writes_as_they_ascend(self):
        writes = [(("b", 0), "limit", 1), (("account", 5), "sum", 1), (("account", 5), "price", 1),
                  (("account", 6), "a", 1), (("aaa", 0), "limit", 1)]
        wrong = [(BadResource, "resource", ("aaa", 0)), (UnknownField, "field", "price"),
                 (UnknownField, "field", "sum"), (UnknownField, "field", "a"), (BadResource, "resource", ("b", 0))]
        for order in itertools.permutations(writes):
            self.check_draft(draft_of(order), *wrong[0])
        for many in range(1, 6):
            self.check_draft(draft_of(sorted(writes)[many - 1:]), *wrong[many - 1])

    def test_tags_ahead_of_writes(self):
        writes = [(("aaa", 0), "limit", 1), (ACCOUNT, "a", 1)]
        self.check_draft(draft_of(writes, [Tag(TOTAL, ["owner"], 0)]), UnknownField, "field", "owner")
        self.check_draft(draft_of(writes, [Tag(("z", 0), ["owner"], 0)]), BadResource, "resource", ("z", 0))
        self.check_draft(draft_of(writes, [Tag(TOTAL, ["sum"], 0)]), BadResource, "resource", ("aaa", 0))

    def test_bad_resource_ahead_of_unknown_field_of_one_tag(self):
        self.check_draft(draft_of([], [Tag(("total", 1), ["owner"], 0)]), BadResource, "resource", ("total", 1))
        self.check_draft(draft_of([(("total", 1), "owner", 5)]), BadResource, "resource", ("total", 1))

    def test_also_where_other_tags_are_not_current(self):
        self.write((ACCOUNT, "limit", 1))
        stale = Tag(ACCOUNT, ["limit"], 0)
        for tag, wrong in [(Tag(TOTAL, ["owner"], 0), (UnknownField, "field", "owner")),
                           (Tag(("item", 0), ["owner"], 0), (BadResource, "resource", ("item", 0)))]:
            self.check_draft(draft_of([(ACCOUNT, "limit", 5)], [stale, tag]), *wrong)
            self.check_draft(draft_of([(ACCOUNT, "limit", 5)], [tag, stale]), *wrong)
        self.check_draft(draft_of([(TOTAL, "limit", 5)], [stale]), UnknownField, "field", "limit")
        self.check_draft(draft_of([(("total", 2), "sum", 5)], [stale]), BadResource, "resource", ("total", 2))


class Telling(ServerCase):
    def setUp(self):
        """An accepted, a rejected and two accepted updates."""
        ServerCase.setUp(self)
        tag = self.server.read(ACCOUNT).tag(["limit"])
        writes = [(TOTAL, "sum", 7), (ACCOUNT, "owner", 6), (ACCOUNT, "limit", 5)]
        self.server.handle(draft_of(writes, [tag], LABELS[0]))
        self.check_rejected(draft_of([(ACCOUNT, "limit", 8), (OTHER, "limit", 8)], [tag], LABELS[1]), 1, [tag])
        self.server.handle(draft_of([(TOTAL, "sum", 9)], [], LABELS[2]))
        self.server.handle(draft_of([(ACCOUNT, "owner", 6), (OTHER, "owner", 1)], [], LABELS[0]))

    def log(self):
        return [(True, LABELS[0], [(ACCOUNT, "limit", 5), (ACCOUNT, "owner", 6), (TOTAL, "sum", 7)]),
                (False, LABELS[1], [(ACCOUNT, "limit", 8), (OTHER, "limit", 8)]),
                (True, LABELS[2], [(TOTAL, "sum", 9)]),
                (True, LABELS[0], [(ACCOUNT, "owner", 6), (OTHER, "owner", 1)])]

    def test_log(self):
        log = self.server.log()
        self.assertEqual(log, self.log())
        self.assertIs(type(log), list)
        self.assertEqual({(type(row), type(row[0]), type(row[2]), type(row[2][0])) for row in log},
                         {(tuple, bool, list, tuple)})

    def test_log_is_new_at_every_depth(self):
        log = self.server.log()
        log[0][2].append(None)
        log[1][2].clear()
        log.pop()
        self.assertEqual(self.server.log(), self.log())
        self.assertEqual(list(self.server.changes(OTHER)), [(3, [("owner", 1)])])

    def test_log_of_unlabelled_updates(self):
        self.write((TOTAL, "sum", 1))
        self.assertEqual(self.server.log(), [*self.log(), (True, None, [(TOTAL, "sum", 1)])])

    def test_history(self):
        history = self.server.history()
        self.assertEqual(history, [LABELS[0], LABELS[1], LABELS[2], LABELS[0]])
        self.assertIs(type(history), list)
        history.clear()
        self.assertEqual(len(self.server.history()), 4)

    def test_unlabelled_is_the_first_update_without_a_label(self):
        self.write((TOTAL, "sum", 1))
        self.write((TOTAL, "sum", 2))
        with self.assertRaises(Unlabelled) as context:
            self.server.history()
        self.assertEqual(context.exception.number, 4)
        self.check_nothing_handled(6)

    def test_unlabelled_update_that_was_rejected(self):
        stale = Tag(TOTAL, ["sum"], 0)
        self.check_rejected(draft_of([], [stale]), 4, [stale])
        with self.assertRaises(Unlabelled) as context:
            self.server.history()
        self.assertEqual(context.exception.number, 4)

    def test_unlabelled_first_update(self):
        server = Server(bank())
        server.handle(Draft())
        server.handle(draft_of([], [], LABELS[0]))
        with self.assertRaises(Unlabelled) as context:
            server.history()
        self.assertEqual(context.exception.number, 0)

    def test_changes(self):
        for form in [tuple, list]:
            self.assertEqual(list(self.server.changes(form(ACCOUNT))),
                             [(0, [("limit", 5), ("owner", 6)]), (3, [("owner", 6)])])
            self.assertEqual(list(self.server.changes(resource=form(OTHER))), [(3, [("owner", 1)])])
            self.assertEqual(list(self.server.changes(form(TOTAL))), [(0, [("sum", 7)]), (2, [("sum", 9)])])
            self.assertEqual(list(self.server.changes(form(["account", 0]))), [])

    def test_changes_is_a_generator(self):
        self.assertTrue(inspect.isgeneratorfunction(Server.changes))
        changes = self.server.changes(ACCOUNT)
        self.assertTrue(inspect.isgenerator(changes))
        self.assertEqual(next(changes), (0, [("limit", 5), ("owner", 6)]))
        self.assertEqual(list(changes), [(3, [("owner", 6)])])

    def test_changes_yields_new_lists(self):
        for change in self.server.changes(ACCOUNT):
            self.assertEqual((type(change), type(change[1]), type(change[1][0])), (tuple, list, tuple))
            change[1].clear()
        self.assertEqual(list(self.server.changes(ACCOUNT)), [(0, [("limit", 5), ("owner", 6)]), (3, [("owner", 6)])])
        self.assertEqual(self.server.log(), self.log())

    def test_changes_of_any_other_object(self):
        for thing in [*no_resources(), *any_objects()]:
            self.assertEqual(list(self.server.changes(thing)), [])

    def test_changes_of_a_bool_as_number(self):
        self.write((("account", 1), "limit", 2), (("account", 0), "limit", 2))
        for thing in [("account", True), ["account", False], ("total", False)]:
            self.assertEqual(list(self.server.changes(thing)), [])
            self.check_bad_resource(thing, lambda: self.server.read(thing))


class Model:
    """A server that keeps nothing but its updates, by the words of the document."""

    def __init__(self):
        self.updates = []

    def written(self, resource, moment):
        """The dicts of what the accepted updates before this moment wrote on the resource."""
        rows = [{field: value for place, field, value in writes if place == resource}
                for accepted, writes in self.updates[:moment] if accepted]
        return [row for row in rows if row]

    def value(self, resource, field, moment):
        return [0, *[row[field] for row in self.written(resource, moment) if field in row]][-1]

    def count(self, resource, cover, moment):
        return len([row for row in self.written(resource, moment) if set(row) & set(cover)])

    def stale(self, tags):
        now = len(self.updates)
        return [tag for tag in tags if self.count(tag.resource, tag.cover().words(), now) != tag.count]


class Runs(ServerCase):
    """Long runs of updates by tags of copies of any age, beside the model."""

    places = [("item", 0), ("item", 1), ("order", 0), ("till", 0)]

    def setUp(self):
        self.server, self.model = Server(shop()), Model()

    def words(self, place):
        return self.server.schema[place[0]].fields().words()

    def some_draft(self, source, copies):
        writes = [(place, word, source.randrange(-2, 3)) for place in source.sample(self.places, source.randrange(4))
                  for word in self.words(place) if source.randrange(3) == 0]
        read = [source.choice(copies[-6:]) for number in range(source.randrange(3))]
        tags = [copy.tag([word for word in self.words(copy.resource) if source.randrange(2)]) for copy in read]
        return draft_of(writes, tags)

    def handle_both(self, draft):
        number, stale = len(self.model.updates), self.model.stale(draft.tags())
        if stale:
            self.check_rejected(draft, number, stale)
        else:
            self.assertEqual(self.server.handle(draft), number)
        self.model.updates.append((not stale, draft.writes()))

    def check_copies(self, copies):
        for copy in copies:
            words = self.words(copy.resource)
            values = {word: self.model.value(copy.resource, word, copy.moment) for word in words}
            self.check_copy(copy, copy.resource, copy.moment, values)
            for cover in covers_of(words):
                count = self.model.count(copy.resource, cover, copy.moment)
                self.assertEqual(copy.tag(cover), Tag(copy.resource, cover, count))

    def check_telling(self):
        updates = self.model.updates
        self.assertEqual(self.server.handled, len(updates))
        self.assertEqual(self.server.log(), [(accepted, None, writes) for accepted, writes in updates])
        for place in self.places:
            written = [(number, [(field, value) for at, field, value in writes if at == place])
                       for number, (accepted, writes) in enumerate(updates) if accepted]
            self.assertEqual(list(self.server.changes(place)), [change for change in written if change[1]])

    def test_runs(self):
        verdicts = []
        for seed in range(8):
            self.setUp()
            source, copies, drafts = random.Random(seed), [], []
            for turn in range(40):
                copies.append(self.server.read(source.choice(self.places)))
                drafts.append(self.some_draft(source, copies))
                self.handle_both(source.choice(drafts[-3:]))
                self.check_telling()
            self.check_copies(copies)
            verdicts += [accepted for accepted, writes in self.model.updates]
        self.assertGreater(min(verdicts.count(True), verdicts.count(False)), 40)


class OtherSchemas(unittest.TestCase):
    def test_kinds_with_a_field_in_common_are_apart(self):
        server = Server(shop())
        server.handle(draft_of([(("item", 0), "price", 5)]))
        self.assertEqual((server.read(("item", 0))["price"], server.read(("order", 0))["price"]), (5, 0))
        self.assertEqual(server.read(("order", 0)).tag(["price"]).count, 0)
        with self.assertRaises(UnknownField):
            server.handle(draft_of([(("order", 0), "stock", 5)]))

    def test_a_kind_of_another_schema(self):
        server = Server(Schema([Kind("account", ["sum"])]))
        with self.assertRaises(UnknownField) as context:
            server.handle(draft_of([(ACCOUNT, "limit", 5)]))
        self.assertEqual((context.exception.field, server.handled), ("limit", 0))


if __name__ == "__main__":
    unittest.main()
