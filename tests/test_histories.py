"""Histories: points 27 to 29 and 32 of the document, and 3 to 5 and 46 as far as they concern them."""

import itertools
import random
import re
import unittest

from seenmarks.caches import Cache
from seenmarks.catalogs import Catalog
from seenmarks.errors import BadStep, BadText, Rejected
from seenmarks.fields import Fields
from seenmarks.histories import dependencies, history_text, read_history, reads, replay
from seenmarks.orders import is_cycle, is_order, serial
from seenmarks.servers import Server
from seenmarks.templates import Template, attempt
from tests import models
from tests.samples import (add, any_objects, bank, bank_catalog, deep_lists, deep_tuples, form_of, no_integers,
                           no_lists, no_words, spoil)

A0, A1, A2, TOTAL = ("account", 0), ("account", 1), ("account", 2), ("total", 0)
HISTORY = [
    ("add", [A0], [0]),
    ("move", [A0, A1, TOTAL], [0, 1, 0]),
    ("move", [A0, A1, TOTAL], [1, 0, 2]),
    ("add", [A1], [2]),
    ("move", [A1, A2, TOTAL], [3, 0, 1]),
    ("move", [A1, A0, TOTAL], [4, 3, 1]),
]
ACCEPTED = [True, False, True, True, False, True]
READS = [
    [(0, "limit", None)],
    [(0, "limit", None), (0, "owner", None), (1, "limit", None), (2, "sum", None)],
    [(0, "limit", 0), (0, "owner", None), (1, "limit", None), (2, "sum", None)],
    [(0, "limit", None)],
    [(0, "limit", 2), (0, "owner", 2), (1, "limit", None), (2, "sum", None)],
    [(0, "limit", 3), (0, "owner", 2), (1, "limit", 2), (2, "sum", None)],
]
DEPENDENCIES = [
    (0, 2, "miss", A0, "limit"), (0, 2, "read", A0, "limit"), (0, 2, "write", A0, "limit"),
    (0, 5, "miss", A0, "limit"), (0, 5, "read", A0, "limit"), (0, 5, "write", A0, "limit"),
    (2, 3, "miss", A1, "limit"), (2, 3, "write", A1, "limit"),
    (2, 5, "miss", A0, "limit"), (2, 5, "miss", A0, "owner"), (2, 5, "miss", A1, "limit"),
    (2, 5, "miss", TOTAL, "sum"), (2, 5, "read", A0, "limit"), (2, 5, "read", A1, "limit"),
    (2, 5, "read", A1, "owner"), (2, 5, "write", A0, "limit"), (2, 5, "write", A1, "limit"),
    (2, 5, "write", TOTAL, "sum"),
    (3, 2, "miss", A1, "limit"),
    (3, 5, "miss", A1, "limit"), (3, 5, "read", A1, "limit"), (3, 5, "write", A1, "limit"),
    (5, 2, "miss", TOTAL, "sum"),
]
CALLS = [replay, reads, dependencies, serial, lambda catalog, history: is_order(catalog, history, None),
         lambda catalog, history: is_cycle(catalog, history, None)]


class Telling(unittest.TestCase):
    def test_worked_out_by_hand(self):
        for form in [lambda thing: thing, deep_lists, deep_tuples]:
            history = form(HISTORY)
            self.assertEqual(form_of(replay(bank_catalog(), history)), form_of(ACCEPTED))
            self.assertEqual(form_of(reads(bank_catalog(), history)), form_of(READS))
            self.assertEqual(form_of(dependencies(bank_catalog(), history)), form_of(DEPENDENCIES))

    def test_arguments_by_name(self):
        catalog = bank_catalog()
        self.assertEqual(replay(history=HISTORY, catalog=catalog), ACCEPTED)
        self.assertEqual(reads(history=HISTORY, catalog=catalog), READS)
        self.assertEqual(dependencies(history=HISTORY, catalog=catalog), DEPENDENCIES)

    def test_each_beginning_of_a_history(self):
        for many in range(len(HISTORY) + 1):
            self.assertEqual(replay(bank_catalog(), HISTORY[:many]), ACCEPTED[:many])
            self.assertEqual(reads(bank_catalog(), HISTORY[:many]), READS[:many])
            self.assertEqual(dependencies(bank_catalog(), HISTORY[:many]),
                             [row for row in DEPENDENCIES if max(row[:2]) < many])

    def test_empty_history(self):
        for history in [[], ()]:
            self.assertEqual([call(bank_catalog(), history) for call in [replay, reads, dependencies]], [[], [], []])

    def test_a_tag_covers_some_of_what_was_read_or_all_fields(self):
        # The second variable of move covers the owner, which it does not read; the first one reads it without a cover.
        catalog = Catalog(bank(), [*[bank_catalog()[name] for name in ["add", "move"]],
                                   Template("name", [("account", [], [], ["owner"])])])
        for places, accepted in [([A0, A1, TOTAL], True), ([A1, A0, TOTAL], False)]:
            history = [("name", [A0], [0]), ("move", places, [0, 0, 0])]
            self.assertEqual(replay(catalog, history), [True, accepted])
        rows = dependencies(catalog, [("name", [A0], [0]), ("move", [A0, A1, TOTAL], [0, 0, 0])])
        self.assertEqual(rows, [(1, 0, "miss", A0, "owner")])

    def test_writes_of_a_rejected_update_reject_nothing(self):
        history = [("add", [A0], [0]), ("move", [A0, A1, TOTAL], [0, 0, 0]), ("move", [A1, A0, TOTAL], [0, 1, 0])]
        self.assertEqual(replay(bank_catalog(), history), [True, False, True])

    def test_updates_from_the_moment_on_count_and_none_before(self):
        history = [("add", [A0], [0])] * 3
        for moment in range(4):
            self.assertEqual(replay(bank_catalog(), [*history, ("move", [A0, A1, TOTAL], [moment, 0, 0])])[3],
                             moment == 3)
            self.assertEqual(reads(bank_catalog(), [*history, ("move", [A0, A1, TOTAL], [moment, 0, 0])])[3][0],
                             (0, "limit", moment - 1 if moment else None))

    def test_large_numbers(self):
        place = ("account", 10 ** 9 - 1)
        history = [("add", [place], [0]), ("add", [list(place)], [1])]
        self.assertEqual(dependencies(bank_catalog(), history),
                         [(0, 1, word, place, "limit") for word in ["miss", "read", "write"]])

    def test_returned_lists_are_new_and_nothing_is_changed(self):
        history = deep_lists(HISTORY)
        catalog = bank_catalog()
        for call, expected in [(replay, ACCEPTED), (reads, READS), (dependencies, DEPENDENCIES)]:
            result = call(catalog, history)
            self.assertEqual(history, deep_lists(HISTORY))
            spoil(result)
            self.assertEqual(call(catalog, history), expected)
        spoil(history)
        self.assertTrue(catalog == bank_catalog())

    def test_sixty_steps(self):
        history = [("add", [A0], [max(0, index - 1)]) for index in range(60)]
        self.assertEqual(replay(bank_catalog(), history), [True] * 60)
        self.assertEqual(reads(bank_catalog(), history)[59], [(0, "limit", 57)])
        self.assertEqual(dependencies(bank_catalog(), history), models.dependencies(bank_catalog(), history))

    def test_as_the_model_says(self):
        source = random.Random(11)
        found = []
        for turn in range(150):
            catalog = models.some_catalog(source, 4, 3, "abc", source.choice([0.2, 0.5, 0.8]), 0.3)
            history = models.some_history(source, catalog, source.randrange(1, 9), source.randrange(1, 4))
            verdicts = models.replay(catalog, history)
            found += verdicts
            self.assertEqual(replay(catalog, history), verdicts)
            self.assertEqual(reads(catalog, history), models.reads(catalog, history))
            self.assertEqual(dependencies(catalog, history), models.dependencies(catalog, history))
        self.assertGreater(min(found.count(True), found.count(False)), 50)


class WrongSteps(unittest.TestCase):
    def check_bad_step(self, index, history):
        for call in CALLS:
            with self.assertRaises(BadStep) as context:
                call(bank_catalog(), history)
            self.assertEqual(context.exception.index, index, history)

    def check_step(self, thing):
        """The thing is wrong wherever it stands; what stands behind it does not matter."""
        for index in [0, 1, 3]:
            for form in [list, tuple]:
                self.check_bad_step(index, form([*HISTORY[:index], thing]))
                self.check_bad_step(index, form([*HISTORY[:index], thing, *HISTORY[index + 1:], None]))

    def test_no_list(self):
        for thing in [*no_lists(), Fields([]), Fields(["add"])]:
            self.check_bad_step(0, thing)

    def test_no_list_of_three_items(self):
        step = HISTORY[0]
        for thing in [*any_objects(), step[:2], (*step, None), [step], step[1:], "add", ()]:
            self.check_step(thing)

    def test_name(self):
        for thing in [*any_objects(), "moves", "ad", "Add", ["add"], ("add",), add()]:
            self.check_step((thing, [A0], [0]))

    def test_resources(self):
        for thing in [*no_lists(), [], [A0, A1], A0, [[A0]], [TOTAL], [("total", 1)], [("item", 0)],
                      [("account", -1)], [("account", True)], [("account", "0")], [("account", 0, 0)], [("account",)],
                      [None], ["account"], [10], {0: A0}, Fields(["account"])]:
            self.check_step(("add", thing, [0]))
        for thing in [[A0, A1], [A0, A1, TOTAL, TOTAL], [A0, A0, TOTAL], [A0, list(A0), TOTAL], [TOTAL, A0, A1],
                      [A0, TOTAL, A1], [A0, A1, ("total", 1)], [A0, A1, A2], [A0, None, TOTAL]]:
            self.check_step(("move", thing, [0, 0, 0]))

    def test_moments(self):
        for thing in [*no_lists(), [], [0, 0], [-1], [10 ** 39], [[0]], (0, 0), *[[one] for one in no_integers()]]:
            self.check_step(("add", [A0], thing))
        for thing in [[0, 0], [0, 0, 0, 0], [0, 0, -1], [0, True, 0], [0, 0, None], [0, 0, 9]]:
            self.check_step(("move", [A0, A1, TOTAL], thing))

    def test_moments_up_to_the_index_of_the_step(self):
        for index in range(6):
            for moment in range(8):
                history = [*[("add", [A0], [0])] * index, ("add", [A0], [moment])]
                if moment <= index:
                    self.assertEqual(replay(bank_catalog(), history), [True] * (index + 1))
                else:
                    self.check_bad_step(index, history)

    def test_first_index(self):
        wrong = [None, ("add", [A0], [9]), ("ad", [A0], [0]), ("add", [TOTAL], [0])]
        for order in itertools.permutations([*wrong, ("add", [A0], [0]), ("add", [A1], [0])], 4):
            first = [index for index, thing in enumerate(order) if thing in wrong]
            self.check_bad_step(first[0], list(order))


class OfServers(unittest.TestCase):
    def check_server(self, server, catalog):
        """The history of the server is accepted as the server accepted it, and reads what the copies had."""
        history = server.history()
        self.assertEqual(replay(catalog, history), [accepted for accepted, label, writes in server.log()])
        self.assertEqual(replay(catalog, deep_lists(history)), replay(catalog, history))
        self.assertEqual(history_text(history), history_text(deep_lists(history)))
        self.assertEqual(deep_tuples(read_history(history_text(history))), deep_tuples(history))
        for resource in sorted({place for name, resources, moments in history for place in resources}):
            for number, pairs in server.changes(resource):
                self.assertIs(server.log()[number][0], True)

    def test_two_clients(self):
        server, catalog = Server(bank()), bank_catalog()
        one, other = Cache(server), Cache(server, drops=False)
        for turn in range(6):
            for source in [one, other]:
                try:
                    attempt(source, catalog["move"], [A0, A1, TOTAL], lambda copies: [turn, 1, 2, 3], tries=1)
                except Rejected:
                    source.forget(A0)
        self.check_server(server, catalog)
        self.assertEqual({accepted for accepted, label, writes in server.log()}, {True, False})

    def test_updates_at_random(self):
        source, verdicts = random.Random(3), []
        for turn in range(40):
            catalog = models.some_catalog(source, 4, 3, "abc", 0.7, 0.3)
            server = Server(catalog.schema)
            caches = [server, Cache(server), Cache(server, drops=False)]
            caches.append(Cache(caches[1]))
            written = self.run_updates(source, catalog, server, caches)
            self.check_server(server, catalog)
            self.check_reads(catalog, server, written)
            verdicts += replay(catalog, server.history())
        self.assertGreater(min(verdicts.count(True), verdicts.count(False)), 50)

    def run_updates(self, source, catalog, server, caches):
        """Run updates of old copies; each writes values that no other one writes. Return the copies of each."""
        copies_of = []
        for name, resources, moments in models.some_history(source, catalog, 20):
            cache = source.choice(caches)
            copies = [cache.read(resource) for resource in resources]
            many = sum(len(writes) for kind, reads, cover, writes in catalog[name].variables())
            values = [100 * server.handled + number + 1 for number in range(many)]
            try:
                cache.handle(catalog[name](copies, values))
            except Rejected as error:
                cache.latest(error.stale[0].resource)
            copies_of.append(copies)
        return copies_of

    def check_reads(self, catalog, server, copies_of):
        rows = reads(catalog, server.history())
        for index, row in enumerate(rows):
            for variable, field, writer in row:
                value = copies_of[index][variable][field]
                self.assertEqual(value // 100 if value else None, writer)

    def test_changed_drafts_are_still_steps(self):
        server, catalog = Server(bank()), bank_catalog()
        draft = catalog["add"]([server.read(A0)], [5])
        draft.drop(A0, "limit")
        server.handle(draft)
        self.assertEqual(replay(catalog, server.history()), [True])


class Texts(unittest.TestCase):
    def check_bad_text(self, text, line):
        with self.assertRaises(BadText) as context:
            read_history(text)
        self.assertEqual(context.exception.line, line, text)
        self.assertIs(type(context.exception.line), int)

    def first_wrong_line(self, text):
        """The number of the first line that is not written so, by the words of the document alone, or None."""
        number = "(0|[1-9][0-9]*)"
        lines = text.split("\n")
        for at, line in enumerate(lines, start=1):
            if at == len(lines):
                return at if line else None
            if not re.fullmatch(f"[a-z]{{1,8}}( [a-z]{{1,8}}/{number}@{number})+", line):
                return at
        return None

    def check_text(self, text):
        wrong = self.first_wrong_line(text)
        if wrong is None:
            self.assertEqual(history_text(read_history(text)), text)
        else:
            self.check_bad_text(text, wrong)
        return wrong is None

    def test_example(self):
        step = ("move", [("account", 3), ("account", 7)], [0, 2])
        self.assertEqual(history_text([step]), "move account/3@0 account/7@2\n")
        self.assertEqual(form_of(read_history("move account/3@0 account/7@2\n")), form_of([step]))

    def test_back_and_forth(self):
        text = history_text(HISTORY)
        self.assertEqual(text, "add account/0@0\nmove account/0@0 account/1@1 total/0@0\n"
                               "move account/0@1 account/1@0 total/0@2\nadd account/1@2\n"
                               "move account/1@3 account/2@0 total/0@1\nmove account/1@4 account/0@3 total/0@1\n")
        self.assertEqual(form_of(read_history(text)), form_of(HISTORY))
        self.assertEqual(replay(bank_catalog(), read_history(text)), ACCEPTED)
        for form in [deep_lists, deep_tuples]:
            self.assertEqual(history_text(form(HISTORY)), text)

    def test_arguments_by_name(self):
        self.assertEqual(history_text(history=[]), "")
        self.assertEqual(read_history(text=""), [])

    def test_nothing_has_to_fit(self):
        history = [("f", [("a", 0), ("a", 0), ("b", 7)], [10 ** 39, 0, 5]), ("abcdefgh", [("z", 10 ** 40 - 1)], [99]),
                   ("f", [("abcdefgh", 1)] * 9, list(range(9)))]
        self.assertEqual(form_of(read_history(history_text(history))), form_of(history))
        self.assertTrue(self.check_text(history_text(history)))

    def test_sixty_steps(self):
        history = [("abcdefgh", [("zyxwvuts", 10 ** 9 - 1 - index), ("zyxwvuts", index)], [index, 0])
                   for index in range(60)]
        self.assertEqual(form_of(read_history(history_text(history))), form_of(history))

    def test_returned_lists_are_new(self):
        text = history_text(HISTORY)
        for step in read_history(text):
            spoil(step)
        self.assertEqual(read_history(text), HISTORY)

    def test_history_that_was_passed(self):
        history = deep_lists(HISTORY)
        history_text(history)
        self.assertEqual(history, deep_lists(HISTORY))

    def test_one_sign_changed_put_in_or_left_out(self):
        found = []
        signs = [chr(code) for code in range(32, 127)] + ["\n"]
        for text in ["add account/0@0\nmove a/10@0 abcdefgh/1@9\n", "f a/0@0\n"]:
            for at in range(len(text) + 1):
                found.append(self.check_text(text[:at] + text[at + 1:]))
                for sign in signs:
                    found.append(self.check_text(text[:at] + sign + text[at:]))
                    found.append(self.check_text(text[:at] + sign + text[at + 1:]))
        self.assertGreater(min(found.count(True), found.count(False)), 100)

    def test_two_places_changed(self):
        source, text = random.Random(7), "add account/0@0\nmove a/10@0 b/1@9\nf a/0@0\n"
        for turn in range(3000):
            one, other = sorted(source.sample(range(len(text)), 2))
            some = source.choices("0a/@ 1-\nA", k=2)
            self.check_text(text[:one] + some[0] + text[one + 1:other] + some[1] + text[other + 1:])

    def test_first_wrong_line(self):
        lines = history_text(HISTORY).splitlines()
        for one, other in itertools.combinations(range(len(lines)), 2):
            for wrong in ["", "add", "add ", "Add account/0@0", "add account/00@0", "add account/0@-1"]:
                some = list(lines)
                some[one] = some[other] = wrong
                self.check_bad_text("\n".join(some) + "\n", one + 1)
                self.check_bad_text("\n".join(some), one + 1)

    def test_last_line_without_a_line_feed(self):
        for text, line in [("f a/0@0", 1), ("f a/0@0\nf a/0@0", 2), ("x", 1), (" ", 1), ("f a/0@0\n\n", 2), ("\n", 1)]:
            self.check_bad_text(text, line)

    def test_forms_that_are_wrong(self):
        for part in ["a/0", "a@0", "a0@0", "a/@0", "a/0@", "/0@0", "a/0@0@0", "a/0/0@0", "a/0@0/0", "a /0@0", "a/ 0@0",
                     "a/0 @0", "a/0@ 0", "a/0@0 ", " a/0@0", "a/0@0  a/1@0", "a/+1@0", "a/0@+1", "a/01@0", "a/0@01",
                     "a/00@0", "a/0@00", "A/0@0", "abcdefghi/0@0", "a1/0@0", "a/x@0", "a/0@x", "a/1_0@0", "a/0@1_0",
                     "a/1.0@0", "a/-0@0", "a@0/0", "a/0@0,", "-", "", "a/0@0 b"]:
            self.check_bad_text(f"f {part}\n", 1)
            self.check_bad_text(f"f a/0@0\nf b/1@1 {part}\n", 2)
            self.check_bad_text(f"f a/0@0\nf {part} b/1@1\n", 2)

    def test_names_that_are_no_words(self):
        for name in no_words():
            if isinstance(name, str) and "\n" not in name:
                self.check_bad_text(f"f a/0@0\n{name} a/0@0\n", 2)


if __name__ == "__main__":
    unittest.main()
