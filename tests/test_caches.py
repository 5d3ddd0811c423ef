"""Caches: points 18 to 20 of the document, and 3 to 5 and 46 as far as they concern them."""

import itertools
import random
import unittest

from seenmarks.caches import Cache
from seenmarks.errors import BadFlag, BadResource, Offline, Rejected, SeenError, UnknownField
from seenmarks.servers import Server
from tests.cases import ErrorCase
from tests.samples import any_objects, bank, draft_of, no_resource_pairs

ACCOUNT = ("account", 3)
OTHER = ("account", 4)
TOTAL = ("total", 0)
PLACES = [ACCOUNT, OTHER, TOTAL]
STRANGERS = [("total", 1), ["total", 10 ** 39], ("accoun", 0), ["limit", 0]]


class CacheCase(ErrorCase):
    def setUp(self):
        self.server = Server(bank())

    def chain(self, *drops):
        """Caches in front of the server and of one another, the one at the server first."""
        caches = []
        for flag in drops:
            caches.append(Cache(caches[-1] if caches else self.server, drops=flag))
        return caches

    def write(self, resource, value, source=None):
        field = "sum" if resource == TOTAL else "limit"
        return (source or self.server).handle(draft_of([(resource, field, value)]))

    def check_stored(self, cache, expected):
        """The cache has just these copies, by their resources: an order of the dict does not count."""
        self.assertEqual(cache.stored(), sorted(expected))
        self.assertIs(type(cache.stored()), list)
        self.assertEqual([type(resource) for resource in cache.stored()], [tuple] * len(expected))
        for resource, copy in expected.items():
            self.assertIs(cache.read(resource), copy)


class Making(CacheCase):
    def test_attributes(self):
        for drops in [True, False]:
            cache = Cache(self.server, drops=drops)
            self.assertIs(cache.source, self.server)
            self.assertIs(cache.drops, drops)
            self.assertIs(Cache(cache).source, cache)
        self.assertIs(Cache(self.server).drops, True)
        self.assertEqual(Cache(self.server).stored(), [])
        self.assertIs(Cache(self.server).is_offline(), False)

    def test_arguments_by_name(self):
        cache = Cache(drops=False, source=self.server)
        self.assertIs(cache.source, self.server)
        self.assertIs(cache.drops, False)

    def test_drops_by_name_only(self):
        with self.assertRaises(TypeError):
            Cache(self.server, False)

    def test_bad_flag(self):
        for thing in any_objects():
            if thing is not True and thing is not False:
                self.check_error(BadFlag, thing, lambda: Cache(self.server, drops=thing))


class Reading(CacheCase):
    def test_stored_copy_stays_while_the_server_goes_on(self):
        cache = Cache(self.server)
        for form in [tuple, list]:
            first = cache.read(form(ACCOUNT))
            self.write(ACCOUNT, 5)
            self.assertIs(cache.read(ACCOUNT), first)
            self.assertIs(cache.read(list(ACCOUNT)), first)
            self.assertEqual((first.resource, first.moment, first["limit"]), (ACCOUNT, 0, 0))
        self.check_stored(cache, {ACCOUNT: first})

    def test_read_stores_what_the_source_returns(self):
        cache = Cache(self.server)
        self.write(TOTAL, 7)
        copy = cache.read(resource=TOTAL)
        self.assertEqual((copy.resource, copy.moment, copy["sum"]), (TOTAL, 1, 7))
        self.check_stored(cache, {TOTAL: copy})

    def test_latest_replaces_the_stored_copy(self):
        cache = Cache(self.server)
        first = cache.read(ACCOUNT)
        self.write(ACCOUNT, 5)
        second = cache.latest(resource=list(ACCOUNT))
        self.assertIsNot(first, second)
        self.assertEqual((second.moment, second["limit"]), (1, 5))
        self.check_stored(cache, {ACCOUNT: second})
        third = cache.latest(ACCOUNT)
        self.assertIsNot(second, third)
        self.check_stored(cache, {ACCOUNT: third})

    def test_latest_stores_where_nothing_is_stored(self):
        cache = Cache(self.server)
        self.check_stored(cache, {TOTAL: cache.latest(TOTAL)})

    def test_stored_ascends(self):
        places = [("account", 10), ("account", 9), TOTAL, ("account", 10 ** 39), ("account", 0)]
        for order in itertools.permutations(places):
            cache = Cache(self.server)
            for at, place in enumerate(order):
                cache.latest(place) if at % 2 else cache.read(list(place))
            self.assertEqual(cache.stored(), [("account", 0), ("account", 9), ("account", 10),
                                              ("account", 10 ** 39), TOTAL])

    def test_stored_list_is_new(self):
        cache = Cache(self.server)
        copy = cache.read(ACCOUNT)
        cache.stored().clear()
        cache.stored().append(TOTAL)
        self.check_stored(cache, {ACCOUNT: copy})
        earlier = cache.stored()
        cache.read(TOTAL)
        self.assertEqual(earlier, [ACCOUNT])

    def test_list_that_was_passed(self):
        for method in ["read", "latest"]:
            cache, resource = Cache(self.server), list(ACCOUNT)
            copy = getattr(cache, method)(resource)
            self.assertEqual(resource, list(ACCOUNT))
            resource[1] = 4
            resource.append(None)
            self.check_stored(cache, {ACCOUNT: copy})

    def test_errors_of_the_source_store_nothing(self):
        cache = Cache(self.server)
        copies = {place: cache.read(place) for place in [("account", 0), ("account", 1), TOTAL]}
        for front in [cache, Cache(cache)]:
            for thing in [*no_resource_pairs(), *STRANGERS, ("account", True), ["account", False], ("total", False)]:
                self.check_error(BadResource, thing, lambda: front.read(thing))
                self.check_error(BadResource, thing, lambda: front.latest(thing))
        self.assertEqual(front.stored(), [])
        self.check_stored(cache, copies)

    def test_caches_of_one_source_are_apart(self):
        one, other = Cache(self.server), Cache(self.server)
        copy = one.read(ACCOUNT)
        self.assertEqual(other.stored(), [])
        self.assertIsNot(other.read(ACCOUNT), copy)
        one.forget(ACCOUNT)
        self.assertEqual((one.stored(), other.stored()), ([], [ACCOUNT]))


class Forgetting(CacheCase):
    def test_forget(self):
        for form in [tuple, list]:
            cache = Cache(self.server)
            copies = {place: cache.read(place) for place in PLACES}
            self.assertIsNone(cache.forget(form(ACCOUNT)))
            del copies[ACCOUNT]
            self.check_stored(cache, copies)
            self.assertIsNone(cache.forget(resource=form(ACCOUNT)))
            self.check_stored(cache, copies)

    def test_forgotten_copy_is_read_anew(self):
        cache = Cache(self.server)
        cache.read(ACCOUNT)
        self.write(ACCOUNT, 5)
        cache.forget(ACCOUNT)
        self.assertEqual(cache.read(ACCOUNT)["limit"], 5)

    def test_forget_of_any_other_object_does_nothing(self):
        cache = Cache(self.server)
        copies = {place: cache.read(place) for place in [("account", 1), ("account", 2), TOTAL]}
        for thing in [*any_objects(), *no_resource_pairs(), *STRANGERS, ("account", True), ["total", False], "account",
                      [("account", 1)], ("account", 1, 1), copies[TOTAL]]:
            self.assertIsNone(cache.forget(thing))
            self.assertEqual(cache.stored(), sorted(copies))
        self.check_stored(cache, copies)

    def test_forget_is_of_one_cache(self):
        near, far = self.chain(True, True)
        copy = far.read(ACCOUNT)
        far.forget(ACCOUNT)
        self.assertEqual((near.stored(), far.stored()), ([ACCOUNT], []))
        near.forget(ACCOUNT)
        self.assertIsNot(far.read(ACCOUNT), copy)


class Chains(CacheCase):
    def test_read_stores_at_each_cache(self):
        caches = self.chain(*[True] * 6)
        copy = caches[5].read(ACCOUNT)
        for cache in caches:
            self.check_stored(cache, {ACCOUNT: copy})

    def test_read_ends_at_the_first_stored_copy(self):
        for at in range(6):
            self.setUp()
            caches = self.chain(*[True] * 6)
            old = caches[at].read(OTHER)
            self.write(OTHER, 5)
            new = caches[at - 1].latest(OTHER) if at else self.server.latest(OTHER)
            self.assertIs(caches[5].read(OTHER), old)
            for number, cache in enumerate(caches[:at]):
                self.check_stored(cache, {OTHER: new})
            for cache in caches[at:]:
                self.check_stored(cache, {OTHER: old})

    def test_latest_goes_through_to_the_server(self):
        caches = self.chain(*[True] * 6)
        old = caches[5].read(ACCOUNT)
        self.write(ACCOUNT, 5)
        for at in range(6):
            new = caches[at].latest(ACCOUNT)
            self.assertEqual((new.moment, new["limit"]), (1, 5))
            for cache in caches[:at + 1]:
                self.check_stored(cache, {ACCOUNT: new})
            for cache in caches[at + 1:]:
                self.check_stored(cache, {ACCOUNT: old})


class Handling(CacheCase):
    def test_number_of_the_update(self):
        near, far = self.chain(True, False)
        for number, source in enumerate([self.server, near, far, near, self.server, far]):
            self.assertEqual(self.write(ACCOUNT, number, source), number)
        self.assertEqual(far.handle(draft=draft_of([])), 6)
        self.assertEqual(self.server.handled, 7)

    def test_accepted_update_drops_what_it_wrote_at_each_cache_that_it_passed(self):
        for drops in itertools.product([True, False], repeat=3):
            for at in range(3):
                self.setUp()
                caches = self.chain(*drops)
                copies = {place: caches[2].read(place) for place in PLACES}
                caches[at].handle(draft_of([(TOTAL, "sum", 1), (ACCOUNT, "owner", 2)]))
                for number, cache in enumerate(caches):
                    dropped = drops[number] and number <= at
                    self.check_stored(cache, {OTHER: copies[OTHER]} if dropped else copies)

    def test_dropped_although_other_fields_or_the_same_values_were_written(self):
        cache = Cache(self.server)
        cache.read(ACCOUNT)
        cache.handle(draft_of([(ACCOUNT, "owner", 0)]))
        self.assertEqual(cache.stored(), [])

    def test_tags_and_reads_are_not_dropped(self):
        cache = Cache(self.server)
        copies = {place: cache.read(place) for place in PLACES}
        cache.handle(draft_of([], [copy.tag(["sum"] if copy.resource == TOTAL else ["limit"])
                                   for copy in copies.values()]))
        self.check_stored(cache, copies)

    def test_update_of_what_is_not_stored(self):
        cache = Cache(self.server)
        copy = cache.read(OTHER)
        self.assertEqual(self.write(ACCOUNT, 1, cache), 0)
        self.check_stored(cache, {OTHER: copy})

    def test_rejected_update_leaves_the_copies(self):
        for drops in [True, False]:
            self.setUp()
            caches = self.chain(drops, drops)
            copies = {place: caches[1].read(place) for place in PLACES}
            self.write(ACCOUNT, 5)
            stale = copies[ACCOUNT].tag(["limit"])
            draft = draft_of([(ACCOUNT, "limit", 6), (OTHER, "limit", 6)], [stale, copies[OTHER].tag(["limit"])])
            for number, source in enumerate(caches):
                with self.assertRaises(Rejected) as context:
                    source.handle(draft)
                self.assertEqual(context.exception.number, number + 1)
                self.assertEqual([id(tag) for tag in context.exception.stale], [id(stale)])
            for cache in caches:
                self.check_stored(cache, copies)
            self.assertEqual(self.server.read(OTHER)["limit"], 0)

    def test_wrong_drafts_leave_the_copies(self):
        near, far = self.chain(True, True)
        copies = {place: far.read(place) for place in PLACES}
        for draft, error in [(draft_of([(ACCOUNT, "limit", 1), (("total", 1), "sum", 1)]), BadResource),
                             (draft_of([(ACCOUNT, "limit", 1), (TOTAL, "limit", 1)]), UnknownField)]:
            for source in [near, far]:
                with self.assertRaises(error):
                    source.handle(draft)
        self.check_stored(near, copies)
        self.check_stored(far, copies)
        self.assertEqual(self.server.handled, 0)

    def test_draft_is_not_changed(self):
        cache = Cache(self.server)
        tag = cache.read(ACCOUNT).tag(["limit"])
        draft = draft_of([(ACCOUNT, "limit", 5), (TOTAL, "sum", 6)], [tag], ("add", (ACCOUNT,), (0,)))
        cache.handle(draft)
        self.assertEqual(draft.writes(), [(ACCOUNT, "limit", 5), (TOTAL, "sum", 6)])
        self.assertEqual((draft.tags(), draft.label), ([tag], ("add", (ACCOUNT,), (0,))))


class Unlucky(Exception):
    """An error of the caller."""


class OfflineCalls(CacheCase):
    def check_offline(self, cache, stored):
        """The cache is offline, and has these copies."""
        self.assertIs(cache.is_offline(), True)
        handled = self.server.handled
        for place in [*PLACES, *map(list, PLACES)]:
            if tuple(place) in stored:
                self.assertIs(cache.read(place), stored[tuple(place)])
            else:
                self.check_error(Offline, None, lambda: cache.read(place))
            self.check_error(Offline, None, lambda: cache.latest(place))
        for thing in [*any_objects(), *STRANGERS, ("account", True), ["total", False]]:
            self.check_error(Offline, None, lambda: cache.read(thing))
            self.check_error(Offline, None, lambda: cache.latest(thing))
        for draft in [draft_of([]), draft_of([(ACCOUNT, "limit", 9)]), draft_of([(("total", 1), "sum", 1)])]:
            self.check_error(Offline, None, lambda: cache.handle(draft))
        self.assertEqual(cache.stored(), sorted(stored))
        self.assertEqual(self.server.handled, handled)

    def check_online(self, cache):
        self.assertIs(cache.is_offline(), False)
        self.assertIs(cache.latest(ACCOUNT), cache.read(ACCOUNT))
        self.assertEqual(cache.handle(draft_of([])), self.server.handled - 1)
        self.assertIn(ACCOUNT, cache.stored())

    def test_offline_from_the_beginning_to_the_end(self):
        for drops in [True, False]:
            cache = Cache(self.server, drops=drops)
            stored = {ACCOUNT: cache.read(ACCOUNT)}
            cache.offline(self.check_offline, cache, stored)
            self.check_stored(cache, stored)
            self.check_online(cache)

    def test_returns_what_work_returns(self):
        cache = Cache(self.server)
        for thing in any_objects():
            self.assertIs(cache.offline(lambda: thing), thing)
            self.check_online(cache)

    def test_arguments(self):
        cache = Cache(self.server)
        for many in range(5):
            things = [[number] for number in range(many)]
            got = cache.offline(lambda *told: told, *things)
            self.assertEqual([id(thing) for thing in got], [id(thing) for thing in things])
        self.assertEqual(cache.offline(work=lambda: 5), 5)
        self.assertEqual(cache.offline(max, 3, 7), 7)
        self.assertEqual(cache.offline(cache.stored), [])

    def test_errors_of_work_end_it(self):
        cache = Cache(self.server)
        for error in [Unlucky("x"), KeyError(1), ValueError(), BadFlag(3), Offline(), Rejected(1, []), SeenError(),
                      KeyboardInterrupt(), StopIteration()]:
            def work():
                self.assertIs(cache.is_offline(), True)
                raise error
            with self.assertRaises(type(error)) as context:
                cache.offline(work)
            self.assertIs(context.exception, error)
            self.check_online(cache)

    def test_offline_of_its_own_that_is_not_caught(self):
        cache = Cache(self.server)
        for call in [lambda: cache.read(ACCOUNT), lambda: cache.latest(ACCOUNT), lambda: cache.handle(draft_of([]))]:
            self.check_error(Offline, None, lambda: cache.offline(call))
            self.assertEqual((cache.is_offline(), cache.stored(), self.server.handled), (False, [], 0))

    def test_nested_calls(self):
        for error in [None, Unlucky()]:
            self.check_nested_calls(error)

    def check_nested_calls(self, error):
        cache = Cache(self.server)
        stored = {ACCOUNT: cache.read(ACCOUNT)}

        def inner(error):
            self.check_offline(cache, stored)
            if error:
                raise error
            return "inner"

        def outer(error):
            if error:
                self.check_error(Unlucky, None, lambda: cache.offline(inner, error))
            else:
                self.assertEqual(cache.offline(inner, None), "inner")
            self.check_offline(cache, stored)
            self.assertEqual(cache.offline(cache.offline, cache.offline, lambda: 7), 7)
            self.check_offline(cache, stored)
            return "outer"

        self.assertEqual(cache.offline(outer, error), "outer")
        self.check_online(cache)

    def test_everything_else_works_and_stays(self):
        cache = Cache(self.server)
        copies = {place: cache.read(place) for place in PLACES}

        def work():
            cache.forget(ACCOUNT)
            self.assertEqual(cache.stored(), [OTHER, TOTAL])
            self.check_error(Offline, None, lambda: cache.read(ACCOUNT))
            self.assertIs(cache.read(OTHER), copies[OTHER])
            self.write(OTHER, 5)
            raise Unlucky()

        self.check_error(Unlucky, None, lambda: cache.offline(work))
        self.check_stored(cache, {OTHER: copies[OTHER], TOTAL: copies[TOTAL]})
        self.assertEqual(cache.latest(OTHER)["limit"], 5)

    def test_cache_in_front_of_an_offline_one(self):
        near, middle, front = self.chain(True, True, True)
        total = front.read(TOTAL)
        middle.forget(TOTAL)
        stored = {ACCOUNT: middle.read(ACCOUNT)}

        def work():
            self.assertEqual([cache.is_offline() for cache in [near, middle, front]], [False, True, False])
            self.check_offline(middle, stored)
            self.assertIs(front.read(TOTAL), total)
            self.assertIs(front.read(ACCOUNT), stored[ACCOUNT])
            self.check_error(Offline, None, lambda: front.read(OTHER))
            self.check_error(Offline, None, lambda: front.read(None))
            self.check_error(Offline, None, lambda: front.latest(ACCOUNT))
            self.check_error(Offline, None, lambda: front.handle(draft_of([(ACCOUNT, "limit", 1)])))
            self.check_online(near)

        middle.offline(work)
        self.assertEqual(front.stored(), [ACCOUNT, TOTAL])
        self.check_online(front)

    def test_caches_behind_and_beside_an_offline_one_go_on(self):
        near, front = self.chain(True, True)
        beside = Cache(near)

        def work():
            self.assertEqual([cache.is_offline() for cache in [near, front, beside]], [False, True, False])
            self.check_offline(front, {})
            self.check_online(near)
            self.check_online(beside)
            return beside.offline(lambda: [cache.is_offline() for cache in [near, front, beside]])

        self.assertEqual(front.offline(work), [False, True, True])
        self.check_online(front)


class Runs(CacheCase):
    """Long runs of calls at a tree of caches, beside a plain list of dicts."""

    def setUp(self):
        CacheCase.setUp(self)
        self.caches = self.chain(True, False, True, False, True, True)
        self.caches.append(Cache(self.caches[1], drops=False))
        self.behind = [None, 0, 1, 2, 3, 4, 1]
        self.stored = [{} for cache in self.caches]

    def path(self, at):
        """The numbers of the caches from this one to the server."""
        return [at, *self.path(self.behind[at])] if at is not None else []

    def read(self, at, place):
        held = [number for number in self.path(at) if place in self.stored[number]]
        copy = self.caches[at].read(place)
        passed = self.path(at) if not held else self.path(at)[:self.path(at).index(held[0])]
        if held:
            self.assertIs(copy, self.stored[held[0]][place])
        else:
            self.assertEqual(copy.moment, self.server.handled)
        for number in passed:
            self.stored[number][place] = copy

    def latest(self, at, place):
        copy = self.caches[at].latest(list(place))
        self.assertEqual((copy.resource, copy.moment), (place, self.server.handled))
        for number in self.path(at):
            self.stored[number][place] = copy

    def forget(self, at, place):
        self.caches[at].forget(place)
        self.stored[at].pop(place, None)

    def handle(self, at, place):
        places = [place, *[other for other in PLACES if other in self.stored[at]][:1]]
        copies = [copy for copy in self.stored[at].values()][:1]
        tags = [copy.tag(["sum"] if copy.resource == TOTAL else ["limit"]) for copy in copies]
        accepted = all(self.server.read(tag.resource).tag(tag.cover()) == tag for tag in tags)
        draft = draft_of([(one, "sum" if one == TOTAL else "limit", at) for one in places], tags)
        if not accepted:
            with self.assertRaises(Rejected):
                self.caches[at].handle(draft)
            return
        self.assertEqual(self.caches[at].handle(draft), self.server.handled - 1)
        for number in self.path(at):
            for one in places if self.caches[number].drops else []:
                self.stored[number].pop(one, None)

    def test_runs(self):
        for seed in range(30):
            self.setUp()
            source = random.Random(seed)
            for turn in range(120):
                call = source.choice([self.read, self.read, self.latest, self.forget, self.handle])
                call(source.randrange(len(self.caches)), source.choice(PLACES))
                for cache, stored in zip(self.caches, self.stored):
                    self.check_stored(cache, stored)


if __name__ == "__main__":
    unittest.main()
