"""Templates: points 21 and 22 of the document, and 3 to 5 and 46 as far as they concern them."""

import itertools
import unittest

from seenmarks.caches import Cache
from seenmarks.drafts import Draft
from seenmarks.errors import BadCopies, BadTemplate, BadValues, BadWord, UnknownField
from seenmarks.fields import Fields
from seenmarks.kinds import Kind, Schema
from seenmarks.servers import Copy, Server
from seenmarks.tags import Tag
from seenmarks.templates import Template
from tests.samples import (add, any_objects, bank, deep_lists, deep_tuples, form_of, move, no_integers, no_lists,
                           no_words, shop, spoil)

ACCOUNT = ("account", 3)
OTHER = ("account", 4)
TOTAL = ("total", 0)
VARIABLE = ("account", ["limit", "owner"], ["limit"], ["owner"])
SETS = ["reads", "cover", "writes"]


def no_field_sets():
    """Objects that are no field set."""
    return [*no_lists(), *[[thing] for thing in no_words()], ("limit", None), ["limit", "Owner"], [["limit"]],
            [("limit",)], [Fields(["limit"])]]


def no_variables():
    """Objects that are not a list or tuple of four items."""
    return [*no_lists(), [], (), VARIABLE[:3], [*VARIABLE, []], [VARIABLE], Fields(["a", "b", "c", "d"])]


class MakingTemplates(unittest.TestCase):
    def check_variables(self, template, variables):
        self.assertEqual(form_of(template.variables()), form_of(variables))

    def test_attributes(self):
        template = Template("move", [VARIABLE])
        self.assertEqual(template.name, "move")
        self.check_variables(template, [("account", ["limit", "owner"], ["limit"], ["owner"])])

    def test_arguments_by_name(self):
        template = Template(variables=((VARIABLE),), name="move")
        self.assertEqual(template.name, "move")
        self.check_variables(template, [VARIABLE])

    def test_one_to_three_variables(self):
        for many in range(1, 4):
            for some in itertools.product([VARIABLE, ("total", ["sum"], [], []), ("total", [], [], [])], repeat=many):
                for form in [list, tuple, deep_lists, deep_tuples]:
                    self.check_variables(Template("move", form(some)), list(some))

    def test_field_sets_of_each_form_and_in_any_order(self):
        words = ["owner", "a", "limit", "abcdefgh"]
        for some in itertools.permutations(words):
            for form, outer in itertools.product([list, tuple, Fields], [list, tuple]):
                variables = outer([outer(["account", form(some), form(some[:2] * 2), form(some[3:] + some[1:])])])
                expected = ("account", sorted(some), sorted(some[:2]), sorted(some[1:]))
                self.check_variables(Template("move", variables), [expected])

    def test_field_sets_of_unlike_forms(self):
        template = Template("move", [["account", Fields(["b", "a"]), ("d", "c", "d"), []]])
        self.check_variables(template, [("account", ["a", "b"], ["c", "d"], [])])

    def test_empty_field_sets(self):
        for form in [list, tuple, Fields]:
            template = Template("a", [("b", form([]), form([]), form([]))])
            self.check_variables(template, [("b", [], [], [])])

    def test_lists_that_were_passed(self):
        variables = deep_lists([VARIABLE, ("total", ["sum"], ["sum"], ["sum"])])
        template = Template("move", variables)
        self.assertEqual(variables, deep_lists([VARIABLE, ("total", ["sum"], ["sum"], ["sum"])]))
        spoil(variables)
        self.check_variables(template, [VARIABLE, ("total", ["sum"], ["sum"], ["sum"])])

    def test_returned_lists_are_new(self):
        template = Template("move", [VARIABLE, VARIABLE])
        spoil(template.variables())
        self.check_variables(template, [VARIABLE, VARIABLE])


class WrongTemplates(unittest.TestCase):
    def check_bad_template(self, index, reason, variables):
        with self.assertRaises(BadTemplate) as context:
            Template("move", variables)
        self.assertEqual((context.exception.index, context.exception.reason), (index, reason))

    def check_at_each_index(self, reason, thing):
        """The variable is wrong wherever it stands; those behind it do not matter."""
        for index in range(3):
            for form in [list, tuple]:
                ahead = [VARIABLE] * index
                self.check_bad_template(index, reason, form([*ahead, thing]))
                self.check_bad_template(index, reason, form([*ahead, thing, None]))
                self.check_bad_template(index, reason, form([*ahead, thing, VARIABLE, VARIABLE, VARIABLE]))

    def test_bad_word_ahead_of_bad_template(self):
        for name in no_words():
            for variables in [[VARIABLE], [], None, [None], [VARIABLE] * 4]:
                with self.assertRaises(BadWord) as context:
                    Template(name, variables)
                self.assertIs(context.exception.word, name)

    def test_no_variable_and_no_list(self):
        for thing in [*no_lists(), [], (), Fields([]), Fields(["a"])]:
            self.check_bad_template(0, "variable", thing)

    def test_no_list_of_four_items(self):
        for thing in no_variables():
            self.check_at_each_index("variable", thing)

    def test_fourth_variable(self):
        for more in [VARIABLE, None, ("Account", [], [], []), []]:
            self.check_bad_template(3, "variable", [VARIABLE] * 3 + [more])
            self.check_bad_template(3, "variable", [VARIABLE] * 3 + [more, VARIABLE, None])

    def test_kind(self):
        for thing in no_words():
            for form in [list, tuple]:
                self.check_at_each_index("kind", form([thing, [], [], []]))

    def test_field_sets(self):
        for at, reason in enumerate(SETS):
            for thing in no_field_sets():
                variable = ["account", [], [], []]
                variable[at + 1] = thing
                self.check_at_each_index(reason, variable)

    def test_first_reason(self):
        wrong = ["Account", None, ["A"], [0]]
        right = ["account", [], [], []]
        for choice in itertools.product([False, True], repeat=4):
            if any(choice):
                variable = [wrong[at] if choice[at] else right[at] for at in range(4)]
                self.check_at_each_index(["kind", *SETS][choice.index(True)], variable)
                self.check_at_each_index("variable", [*variable, []])
                self.check_bad_template(3, "variable", [VARIABLE] * 3 + [variable])

    def test_first_index(self):
        rows = [(None, "variable"), ((0, [], [], []), "kind"), (("a", 0, [], []), "reads"),
                (("a", [], 0, []), "cover"), (("a", [], [], 0), "writes"), (VARIABLE, None)]
        for some in itertools.product(rows, repeat=3):
            reasons = [reason for variable, reason in some]
            wrong = [index for index in range(3) if reasons[index]]
            if wrong:
                self.check_bad_template(wrong[0], reasons[wrong[0]], [variable for variable, reason in some])


class Equality(unittest.TestCase):
    def test_equal_if_name_and_variables_are(self):
        sets = [[], ["a"], ["a", "b"]]
        variables = [(kind, reads, cover, writes) for kind in ["k", "l"] for reads in sets for cover in sets[:2]
                     for writes in sets[1:]]
        lists = [[one] for one in variables] + [[one, variables[0]] for one in variables[:6]] + [[variables[0]] * 3]
        parts = [(name, some) for name in ["f", "g"] for some in lists]
        for one, other in itertools.product(parts, repeat=2):
            left = Template(one[0], one[1])
            right = Template(other[0], [(kind, Fields(reads), tuple(cover[::-1] + cover), tuple(writes[::-1]))
                                        for kind, reads, cover, writes in other[1]])
            self.assertIs(left == right, one == other)
            self.assertIs(left != right, one != other)

    def test_order_of_variables_counts(self):
        one, other = ("a", [], [], []), ("b", [], [], [])
        self.assertIs(Template("f", [one, other]) == Template("f", [other, one]), False)

    def test_equals_nothing_else(self):
        template = Template("move", [VARIABLE])
        for thing in [*any_objects(), "move", [VARIABLE], ("move", [VARIABLE]), template.variables(), move()]:
            self.assertIs(template == thing, False)
            self.assertIs(thing == template, False)
            self.assertIs(template != thing, True)


class CallCase(unittest.TestCase):
    def setUp(self):
        self.server = Server(bank())

    def copies(self, *resources):
        return [self.server.read(resource) for resource in resources]

    def check_draft(self, draft, tags, writes, label):
        self.assertIs(type(draft), Draft)
        self.assertEqual(draft.tags(), tags)
        self.assertEqual(form_of(draft.writes()), form_of(writes))
        self.assertEqual(form_of(draft.label), form_of(label))


class Calling(CallCase):
    def test_tags_writes_and_label(self):
        copies = self.copies(OTHER)
        self.server.handle(move()(self.copies(ACCOUNT, OTHER, TOTAL), [1, 2, 3, 4]))
        copies += self.copies(ACCOUNT, TOTAL)
        draft = move()(copies, [5, 6, 7, 8])
        self.check_draft(draft, [Tag(OTHER, ["limit"], 0), Tag(ACCOUNT, ["limit", "owner"], 1)],
                         [(ACCOUNT, "limit", 6), (ACCOUNT, "owner", 7), (OTHER, "limit", 5), (TOTAL, "sum", 8)],
                         ("move", (OTHER, ACCOUNT, TOTAL), (0, 1, 1)))

    def test_arguments_by_name_and_as_tuples(self):
        draft = add()(values=(5,), copies=tuple(self.copies(ACCOUNT)))
        self.check_draft(draft, [], [(ACCOUNT, "limit", 5)], ("add", (ACCOUNT,), (0,)))

    def test_order_of_values(self):
        server = Server(shop())
        words = ["stock", "price", "name", "color"]
        template = Template("f", [("item", [], [], words), ("item", [], [], words[:2]), ("order", [], [], ["paid"])])
        copies = [server.read(resource) for resource in [("item", 1), ("item", 0), ("order", 5)]]
        draft = template(copies, list(range(7)))
        self.check_draft(draft, [], [(("item", 0), "price", 4), (("item", 0), "stock", 5),
                                     (("item", 1), "color", 0), (("item", 1), "name", 1), (("item", 1), "price", 2),
                                     (("item", 1), "stock", 3), (("order", 5), "paid", 6)],
                         ("f", (("item", 1), ("item", 0), ("order", 5)), (0, 0, 0)))

    def test_values(self):
        for value in [0, 1, -1, 10 ** 40 - 1, 1 - 10 ** 40]:
            self.assertEqual(add()(self.copies(ACCOUNT), [value]).writes(), [(ACCOUNT, "limit", value)])

    def test_no_tag_for_an_empty_cover(self):
        for covers in itertools.product([[], ["owner"], ["limit", "owner"]], repeat=3):
            variables = [("account", [], cover, []) for cover in covers]
            resources = [OTHER, ("account", 9), ACCOUNT]
            draft = Template("f", variables)(self.copies(*resources), [])
            tags = [Tag(resource, cover, 0) for resource, cover in zip(resources, covers) if cover]
            self.check_draft(draft, tags, [], ("f", tuple(resources), (0, 0, 0)))

    def test_counts_are_those_of_the_copies(self):
        template = Template("f", [("account", [], ["limit"], ["limit"])])
        copies = self.copies(ACCOUNT)
        for number in range(4):
            self.assertEqual(self.server.handle(template(self.copies(ACCOUNT), [number])), number)
            copies += self.copies(ACCOUNT)
        for moment, copy in enumerate(copies):
            draft = template([copy], [9])
            self.check_draft(draft, [Tag(ACCOUNT, ["limit"], moment)], [(ACCOUNT, "limit", 9)],
                             ("f", (ACCOUNT,), (moment,)))

    def test_copies_of_a_cache(self):
        cache = Cache(self.server)
        old = cache.read(ACCOUNT)
        self.server.handle(add()(self.copies(ACCOUNT), [1]))
        draft = add()([cache.read(ACCOUNT)], [2])
        self.assertEqual(draft.label, ("add", (ACCOUNT,), (0,)))
        self.assertEqual(old.moment, 0)

    def test_a_new_draft_at_each_call(self):
        copies, template = self.copies(ACCOUNT), add()
        one, other = template(copies, [1]), template(copies, [1])
        self.assertIsNot(one, other)
        one.require(Tag(TOTAL, [], 0))
        one[TOTAL, "sum"] = 5
        self.check_draft(other, [], [(ACCOUNT, "limit", 1)], ("add", (ACCOUNT,), (0,)))

    def test_label_stays(self):
        draft = move()(self.copies(ACCOUNT, OTHER, TOTAL), [1, 2, 3, 4])
        draft.require(Tag(TOTAL, ["sum"], 7))
        draft[("account", 8), "limit"] = 5
        draft.drop(ACCOUNT, "limit")
        draft.drop(OTHER, "limit")
        draft.drop(OTHER, "owner")
        self.assertEqual(form_of(draft.label), form_of(("move", (ACCOUNT, OTHER, TOTAL), (0, 0, 0))))

    def test_lists_that_were_passed(self):
        copies, values = self.copies(ACCOUNT), [5]
        draft = add()(copies, values)
        self.assertEqual((len(copies), values), (1, [5]))
        spoil(copies)
        spoil(values)
        self.check_draft(draft, [], [(ACCOUNT, "limit", 5)], ("add", (ACCOUNT,), (0,)))

    def test_history_of_labels(self):
        for number in range(2):
            self.server.handle(add()(self.copies(ACCOUNT), [number]))
        self.server.handle(move()(self.copies(TOTAL, ACCOUNT, OTHER)[1:] + self.copies(TOTAL), [1, 2, 3, 4]))
        self.assertEqual(self.server.history(), [("add", (ACCOUNT,), (0,)), ("add", (ACCOUNT,), (1,)),
                                                 ("move", (ACCOUNT, OTHER, TOTAL), (2, 2, 2))])


class WrongCalls(CallCase):
    def setUp(self):
        CallCase.setUp(self)
        self.right = self.copies(ACCOUNT, OTHER, TOTAL)
        self.values = [1, 2, 3, 4]

    def check_bad_copies(self, index, copies):
        for form in [list, tuple] if isinstance(copies, list) else [lambda thing: thing]:
            for values in [self.values, self.values[1:], None, [None] * 4]:
                with self.assertRaises(BadCopies) as context:
                    move()(form(copies), values)
                self.assertEqual(context.exception.index, index)

    def check_bad_values(self, values):
        for template in [move(), Template("f", [("account", [], ["sum"], ["limit", "owner"]),
                                                ("account", [], [], ["limit"]), ("total", [], [], ["sum"])])]:
            with self.assertRaises(BadValues):
                template(self.right, values)

    def test_no_list(self):
        for thing in [*no_lists(), Fields([]), Fields(["a", "b", "c"])]:
            self.check_bad_copies(0, thing)

    def test_no_copy_at_each_index(self):
        for thing in [*any_objects(), ACCOUNT, Tag(ACCOUNT, [], 0), [self.right[0]], self.server, add()]:
            for index in range(3):
                if not isinstance(thing, Copy):
                    self.check_bad_copies(index, [*self.right[:index], thing, *self.right[index + 1:]])
                    self.check_bad_copies(index, [*self.right[:index], thing, None, None, None])

    def test_copy_of_another_kind(self):
        account, total = self.copies(("account", 9), TOTAL)
        for index, wrong in [(0, total), (1, total), (2, account)]:
            self.check_bad_copies(index, [*self.right[:index], wrong, *self.right[index + 1:]])

    def test_copy_of_the_resource_of_an_earlier_item(self):
        self.server.handle(add()(self.right[:1], [5]))
        for again in [self.right[0], self.server.read(ACCOUNT)]:
            self.check_bad_copies(1, [self.right[0], again, self.right[2]])
            self.check_bad_copies(1, [self.right[0], again])
        template = Template("f", [("account", [], [], [])] * 3)
        for at, some in [(1, [0, 0, 1]), (2, [0, 1, 0]), (2, [0, 1, 1]), (1, [0, 0, 0])]:
            with self.assertRaises(BadCopies) as context:
                template([self.right[number] for number in some], [])
            self.assertEqual(context.exception.index, at)

    def test_an_item_more(self):
        for more in [*self.right, *self.copies(("account", 9)), None, []]:
            self.check_bad_copies(3, [*self.right, more])
            self.check_bad_copies(3, [*self.right, more, more])

    def test_items_missing(self):
        for many in range(3):
            self.check_bad_copies(many, self.right[:many])

    def test_wrong_item_ahead_of_missing_ones(self):
        self.check_bad_copies(0, [None])
        self.check_bad_copies(1, [self.right[0], None])
        self.check_bad_copies(1, [self.right[0], self.right[2]])

    def test_no_list_of_values(self):
        for thing in [*no_lists(), Fields([]), Fields(["a", "b", "c", "d"])]:
            self.check_bad_values(thing)

    def test_values_too_few_or_too_many(self):
        for many in [0, 1, 3, 5, 40]:
            self.check_bad_values([1] * many)
            self.check_bad_values((1,) * many)

    def test_no_integer_at_each_index(self):
        for thing in no_integers():
            for index in range(4):
                values = list(self.values)
                values[index] = thing
                self.check_bad_values(values)
                self.check_bad_values(tuple(values))

    def test_values_where_nothing_is_written(self):
        template = Template("f", [("account", ["limit"], ["limit"], [])])
        self.check_draft(template(self.right[:1], ()), [Tag(ACCOUNT, ["limit"], 0)], [], ("f", (ACCOUNT,), (0,)))
        for thing in [None, [0], "", {}, Fields([])]:
            with self.assertRaises(BadValues):
                template(self.right[:1], thing)

    def test_unknown_field_of_a_cover(self):
        for cover, field in [(["sum"], "sum"), (["limit", "z", "price"], "price"), (["a", "limit"], "a")]:
            template = Template("f", [("account", [], ["limit"], []), ("account", [], cover, []),
                                      ("total", [], ["owner"], [])])
            with self.assertRaises(UnknownField) as context:
                template(self.right, [])
            self.assertEqual(context.exception.field, field)

    def test_reads_and_writes_are_not_looked_at(self):
        template = Template("f", [("account", ["x"], [], ["y", "limit"])])
        draft = template(self.right[:1], [1, 2])
        self.check_draft(draft, [], [(ACCOUNT, "limit", 1), (ACCOUNT, "y", 2)], ("f", (ACCOUNT,), (0,)))
        with self.assertRaises(UnknownField) as context:
            self.server.handle(draft)
        self.assertEqual(context.exception.field, "y")

    def test_copies_of_a_server_of_another_schema(self):
        other = Server(Schema([Kind("account", ["sum"]), Kind("till", ["sum"])]))
        template = Template("f", [("account", [], ["sum"], ["sum"])])
        self.assertEqual(template([other.read(ACCOUNT)], [5]).tags(), [Tag(ACCOUNT, ["sum"], 0)])
        with self.assertRaises(UnknownField):
            template(self.right[:1], [5])

    def test_nothing_is_changed(self):
        for copies, values in [(None, None), (self.right[:2], self.values), (self.right, [None] * 4)]:
            with self.assertRaises((BadCopies, BadValues)):
                move()(copies, values)
        self.assertEqual((self.server.handled, len(self.right), self.values), (0, 3, [1, 2, 3, 4]))


if __name__ == "__main__":
    unittest.main()
