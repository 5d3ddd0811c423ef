"""Attempts: point 23 of the document, and 3 to 5 and 46 as far as they concern it."""

import itertools
import unittest

from seenmarks.caches import Cache
from seenmarks.errors import (BadCopies, BadCount, BadResource, BadValues, Offline, Rejected, SeenError, UnknownField)
from seenmarks.servers import Server
from seenmarks.templates import Template, attempt
from tests.cases import ErrorCase
from tests.samples import any_objects, bank, draft_of, no_integers, spoil

ONE = ("account", 1)
TWO = ("account", 2)
TOTAL = ("total", 0)
PLACES = [ONE, TWO, TOTAL]


def covering():
    """A template of three resources whose tags cover what is read."""
    return Template("move", [("account", ["limit"], ["limit"], ["limit"]), ("account", ["limit"], ["limit"], []),
                             ("total", ["sum"], ["sum"], ["sum"])])


def careless():
    """One of which only the tag of the total covers something."""
    return Template("move", [("account", ["limit"], [], ["limit"]), ("account", ["limit"], [], []),
                             ("total", ["sum"], ["sum"], ["sum"])])


class Watched(Cache):
    """A cache that notes what is read at it."""

    def __init__(self, source, *, drops=True):
        Cache.__init__(self, source, drops=drops)
        self.noted = []

    def read(self, resource):
        self.noted.append(("read", resource))
        return Cache.read(self, resource)

    def latest(self, resource):
        self.noted.append(("latest", resource))
        return Cache.latest(self, resource)

    def handle(self, draft):
        self.noted.append("handle")
        return Cache.handle(self, draft)


class Unlucky(Exception):
    """An error of the caller."""


class AttemptCase(ErrorCase):
    def setUp(self):
        self.server = Server(bank())
        self.seen = []

    def let_in(self, *places):
        """Another update, which writes these resources."""
        self.server.handle(draft_of([(place, "sum" if place == TOTAL else "limit", 9) for place in places]))

    def compute_with(self, *others):
        """A function that notes its copies, and lets another update in at the first calls of it."""
        waiting = list(others)

        def compute(copies):
            self.assertIs(type(copies), list)
            self.seen.append([(copy.resource, copy.moment) for copy in copies])
            values = [copies[0]["limit"] + 1, copies[2]["sum"] + 1]
            if waiting:
                places = waiting.pop(0)
                if places is not None:
                    self.let_in(*places)
            spoil(copies)
            return values

        return compute

    def check_rejected(self, number, places, call):
        with self.assertRaises(Rejected) as context:
            call()
        self.assertEqual(context.exception.number, number)
        self.assertEqual([tag.resource for tag in context.exception.stale], places)


class Accepted(AttemptCase):
    def test_at_the_first_try(self):
        for form in [tuple, list]:
            for source in [self.server, Cache(self.server), Cache(Cache(self.server), drops=False)]:
                self.setUp()
                result = attempt(self.server, covering(), form([form(place) for place in PLACES]), self.compute_with())
                self.assertIs(type(result), tuple)
                self.assertEqual(result, (0, 1))
                self.assertEqual(self.seen, [[(place, 0) for place in PLACES]])
                self.assertEqual(self.server.log(), [(True, ("move", tuple(PLACES), (0, 0, 0)),
                                                      [(ONE, "limit", 1), (TOTAL, "sum", 1)])])

    def test_arguments_by_name(self):
        self.let_in(ONE)
        result = attempt(tries=1, compute=self.compute_with(), resources=PLACES, template=covering(),
                         source=self.server)
        self.assertEqual(result, (1, 1))
        self.assertEqual(self.server.read(ONE)["limit"], 10)

    def test_tries_by_name_only(self):
        with self.assertRaises(TypeError):
            attempt(self.server, covering(), PLACES, self.compute_with(), 3)

    def test_numbers_of_update_and_tries(self):
        for tries in [1, 2, 3, 7, 10 ** 39]:
            for late in range(min(tries, 6)):
                self.setUp()
                self.let_in()
                others = [[TOTAL]] * late
                result = attempt(self.server, covering(), PLACES, self.compute_with(*others), tries=tries)
                self.assertEqual(result, (1 + 2 * late, late + 1))
                self.assertEqual(len(self.seen), late + 1)
                self.assertEqual(self.server.read(TOTAL)["sum"], 10 if late else 1)

    def test_three_tries_if_nothing_else_is_said(self):
        self.assertEqual(attempt(self.server, covering(), PLACES, self.compute_with([ONE], [TWO])), (4, 3))
        self.check_rejected(10, [ONE], lambda: attempt(
            self.server, covering(), PLACES, self.compute_with([ONE], [ONE], [ONE])))

    def test_only_stale_copies_are_renewed(self):
        for some in itertools.product([[], [ONE], [TWO], [TOTAL], [TOTAL, ONE], PLACES], repeat=2):
            self.setUp()
            moments, expected = [0, 0, 0], [[(place, 0) for place in PLACES]]
            tries = 0
            for late in some:
                tries += 1
                if not late:
                    break
                # At the server: the update that was let in, then the rejected one.
                moments = [2 * tries if place in late else moment for place, moment in zip(PLACES, moments)]
                expected.append(list(zip(PLACES, moments)))
            else:
                tries += 1
            result = attempt(self.server, covering(), PLACES, self.compute_with(*some))
            self.assertEqual(self.seen, expected)
            self.assertEqual(result, (self.server.handled - 1, tries))
            self.assertEqual(self.server.log()[-1][1], ("move", tuple(PLACES), tuple(moments)))

    def test_copies_without_a_tag_are_not_renewed(self):
        result = attempt(self.server, careless(), PLACES, self.compute_with([ONE, TWO], [ONE]))
        self.assertEqual((result, len(self.seen)), ((1, 1), 1))
        self.assertEqual(self.server.read(ONE)["limit"], 1)
        self.seen.clear()
        result = attempt(self.server, careless(), PLACES, self.compute_with([ONE, TOTAL], [TWO]))
        self.assertEqual(result, (5, 2))
        self.assertEqual(self.seen, [[(ONE, 2), (TWO, 2), (TOTAL, 2)], [(ONE, 2), (TWO, 2), (TOTAL, 4)]])

    def test_what_is_called_and_in_which_order(self):
        source = Watched(self.server)
        resources = [["account", 1], ("account", 2), ["total", 0]]
        attempt(source, covering(), resources, self.compute_with([TOTAL, ONE], [TWO]))
        reads = [("read", resource) for resource in resources]
        self.assertEqual(source.noted, [*reads, "handle", ("latest", ONE), ("latest", TOTAL), "handle",
                                        ("latest", TWO), "handle"])

    def test_the_function_changes_its_list(self):
        def compute(copies):
            values = [copies[0]["limit"] + 1, 5]
            self.seen.append(len(copies))
            if len(self.seen) == 1:
                self.let_in(TWO)
            copies[0], copies[1] = copies[1], None
            copies.pop()
            return values

        self.assertEqual(attempt(self.server, covering(), PLACES, compute), (2, 2))
        self.assertEqual(self.seen, [3, 3])
        self.assertEqual((self.server.read(ONE)["limit"], self.server.read(TWO)["limit"]), (1, 9))

    def test_the_function_gets_new_lists_of_the_same_copies(self):
        def compute(copies):
            self.seen.append(copies)
            if len(self.seen) < 3:
                self.let_in(TOTAL)
            return (1, 2)

        attempt(self.server, covering(), PLACES, compute)
        self.assertEqual(len({id(copies) for copies in self.seen}), 3)
        self.assertEqual(len({id(copies[0]) for copies in self.seen}), 1)
        self.assertEqual(len({id(copies[2]) for copies in self.seen}), 3)

    def test_lists_that_were_passed_and_that_are_changed_meanwhile(self):
        resources, values = [list(place) for place in PLACES], [3, 4]

        def compute(copies):
            if not self.seen:
                self.let_in(ONE)
                spoil(resources)
            self.seen.append(None)
            return values

        self.assertEqual(attempt(self.server, covering(), resources, compute), (2, 2))
        spoil(values)
        self.assertEqual(self.server.log()[2][2], [(ONE, "limit", 3), (TOTAL, "sum", 4)])


class AtCaches(AttemptCase):
    def test_older_copies_of_a_cache(self):
        cache = Cache(self.server)
        old = [cache.read(place) for place in PLACES]
        self.let_in(ONE)
        self.let_in(TOTAL)
        self.assertEqual(attempt(cache, covering(), PLACES, self.compute_with([TWO])), (4, 2))
        self.assertEqual(self.seen, [[(place, 0) for place in PLACES], [(place, 4) for place in PLACES]])
        self.assertEqual(self.server.read(ONE)["limit"], 10)
        self.assertEqual([copy.moment for copy in old], [0, 0, 0])

    def test_copies_that_are_due_at_each_try(self):
        for drops in [True, False]:
            self.setUp()
            near = Cache(self.server, drops=drops)
            cache = Cache(near, drops=drops)
            for place in PLACES:
                cache.read(place)
            self.let_in(ONE)
            result = attempt(cache, covering(), PLACES, self.compute_with(None, [TOTAL]))
            # Update 0 was let in, 1 is rejected by the account, 2 is let in, 3 rejected by the total, 4 accepted.
            self.assertEqual(result, (4, 3))
            self.assertEqual(self.seen, [[(ONE, 0), (TWO, 0), (TOTAL, 0)], [(ONE, 2), (TWO, 0), (TOTAL, 0)],
                                         [(ONE, 2), (TWO, 0), (TOTAL, 4)]])
            for one in [near, cache]:
                self.assertEqual(one.stored(), [TWO] if drops else PLACES)
                if not drops:
                    self.assertEqual([one.read(place).moment for place in PLACES], [2, 0, 4])

    def test_a_cache_that_keeps_its_copies_is_renewed_at_each_attempt(self):
        cache = Cache(self.server, drops=False)
        results = [attempt(cache, covering(), PLACES, self.compute_with()) for number in range(4)]
        self.assertEqual(results, [(0, 1), (2, 2), (4, 2), (6, 2)])
        self.assertEqual((self.server.read(ONE)["limit"], self.server.read(TOTAL)["sum"]), (4, 4))

    def test_offline(self):
        cache = Cache(self.server)
        for stored in [[], PLACES[:2], PLACES]:
            for place in stored:
                cache.read(place)
            self.check_error(Offline, None, lambda: cache.offline(
                attempt, cache, covering(), PLACES, self.compute_with()))
            self.assertEqual((cache.stored(), self.server.handled), (stored, 0))
        self.assertEqual(len(self.seen), 1)

    def test_offline_at_a_later_try(self):
        near = Cache(self.server)
        inner = self.compute_with([ONE])

        class Leaving(Watched):
            def latest(self, resource):
                return near.offline(Watched.latest, self, resource)

        source = Leaving(near)
        self.check_error(Offline, None, lambda: attempt(source, covering(), PLACES, inner))
        self.assertEqual((len(self.seen), self.server.handled, source.stored()), (1, 2, PLACES))


class Failing(AttemptCase):
    def test_last_try_is_rejected(self):
        for tries in [1, 2, 3, 5]:
            self.setUp()
            source = Watched(self.server)
            compute = self.compute_with(*[[ONE, TOTAL]] * tries)
            self.check_rejected(2 * tries - 1, [ONE, TOTAL], lambda: attempt(
                source, covering(), PLACES, compute, tries=tries))
            self.assertEqual(len(self.seen), tries)
            # Nothing is read behind the last try.
            self.assertEqual(source.noted[-1], "handle")
            self.assertEqual(source.noted.count("handle"), tries)
            self.assertEqual(len(source.noted), 3 + tries + 2 * (tries - 1))
            self.assertEqual(self.server.handled, 2 * tries)

    def test_the_very_tags_of_the_last_try(self):
        drafts = []

        class Keeping(Cache):
            def handle(self, draft):
                drafts.append(draft)
                return Cache.handle(self, draft)

        with self.assertRaises(Rejected) as context:
            attempt(Keeping(self.server), covering(), PLACES, self.compute_with([TWO], [TWO]), tries=2)
        self.assertEqual([id(tag) for tag in context.exception.stale], [id(drafts[1].tags()[1])])

    def test_bad_count(self):
        for thing in [0, -1, -10 ** 39, *no_integers()]:
            self.check_error(BadCount, thing, lambda: attempt(
                self.server, covering(), PLACES, self.compute_with(), tries=thing))
            self.check_error(BadCount, thing, lambda: attempt(None, None, [None], None, tries=thing))
        self.assertEqual((self.seen, self.server.handled), ([], 0))

    def test_bad_resource_of_the_source(self):
        for thing in [("total", 1), ["account", -1], None, "account", ("account", True)]:
            cache = Watched(self.server)
            self.check_error(BadResource, thing, lambda: attempt(
                cache, covering(), [ONE, thing, None], self.compute_with()))
            self.assertEqual((cache.stored(), len(cache.noted)), ([ONE], 2))
        self.assertEqual(self.seen, [])

    def test_resources_that_do_not_fit_the_template(self):
        for resources, index in [([ONE, ONE, TOTAL], 1), ([ONE, TWO], 2), ([ONE, TWO, TOTAL, TOTAL], 3), ([], 0),
                                 ([TOTAL, ONE, TWO], 0)]:
            with self.assertRaises(BadCopies) as context:
                attempt(self.server, covering(), resources, lambda copies: self.seen.append(len(copies)))
            self.assertEqual(context.exception.index, index)
            self.assertEqual(self.seen.pop(), len(resources))
        self.assertEqual(self.server.handled, 0)

    def test_what_the_function_returns_is_no_list_of_values(self):
        for thing in [*any_objects(), [1], [1, 2, 3], [1, True], (1, "2")]:
            with self.assertRaises(BadValues):
                attempt(self.server, covering(), PLACES, lambda copies: thing)
        self.assertEqual(self.server.handled, 0)

    def test_unknown_field(self):
        template = Template("f", [("account", [], [], ["limit", "price"])])
        self.check_error(UnknownField, "price", lambda: attempt(self.server, template, [ONE], lambda copies: [1, 2]))
        template = Template("f", [("account", [], ["sum"], [])])
        self.check_error(UnknownField, "sum", lambda: attempt(self.server, template, [ONE], lambda copies: []))
        self.assertEqual(self.server.handled, 0)

    def test_errors_of_the_function(self):
        for error in [Unlucky(), KeyError(), Rejected(7, []), Rejected(0, [None]), BadCount(1), SeenError(), Offline()]:
            for late in range(3):
                self.setUp()
                cache = Cache(self.server)
                inner = self.compute_with(*[[TOTAL]] * late)

                def compute(copies):
                    values = inner(copies)
                    if len(self.seen) > late:
                        raise error
                    return values

                with self.assertRaises(type(error)) as context:
                    attempt(cache, covering(), PLACES, compute)
                self.assertIs(context.exception, error)
                # What was stored and handled by then stays.
                self.assertEqual((len(self.seen), self.server.handled, cache.stored()), (late + 1, 2 * late, PLACES))
                self.assertEqual(cache.read(TOTAL).moment, 2 * late)

    def test_error_of_the_source_at_a_later_try(self):
        cache = Cache(self.server)

        def compute(copies):
            self.seen.append(None)
            self.let_in(ONE)
            return [1, 2]

        class Broken(Watched):
            def latest(self, resource):
                raise Unlucky()

        source = Broken(cache)
        self.check_error(Unlucky, None, lambda: attempt(source, covering(), PLACES, compute))
        self.assertEqual((len(self.seen), self.server.handled, source.noted.count("handle")), (1, 2, 1))


if __name__ == "__main__":
    unittest.main()
