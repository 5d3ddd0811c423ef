"""The texts of catalogs: point 26 of the document, and 3 to 5 and 46 as far as they concern them."""

import itertools
import random
import re
import unittest

from seenmarks.catalogs import Catalog
from seenmarks.errors import BadCatalog, BadField, BadKind, BadTemplate, BadText, BadWord, SeenError
from seenmarks.kinds import Kind, Schema
from seenmarks.templates import Template
from tests.samples import bank_catalog

BANK = """kind account limit,owner
single total sum
template add
account reads limit cover - writes limit
template move
account reads limit,owner cover limit writes limit
account reads limit cover limit,owner writes limit,owner
total reads sum cover - writes sum
"""
ODD = """kind kind cover,kind,reads,writes
single single single
kind template template
single reads a,reads
template kind
kind reads cover,kind,reads,writes cover reads writes kind
single reads single cover - writes -
template single
template reads template cover template writes template
reads reads reads cover a,reads writes a
template template
reads reads - cover - writes reads
template reads
kind reads - cover - writes -
"""
WIDE = """single abcdefgh a,aa,ab,b
template a
abcdefgh reads - cover a,aa,ab,b writes -
"""
TEXTS = [BANK, ODD, WIDE]
WORDS = "(-|[a-z]{1,8}(?:,[a-z]{1,8})*)"
FORMS = {"kind": f"(kind|single) ([a-z]{{1,8}}) {WORDS}", "template": "template ([a-z]{1,8})",
         "variable": f"([a-z]{{1,8}}) reads {WORDS} cover {WORDS} writes {WORDS}"}
ORDERS = [("", "kind"), ("kind", "kind"), ("kind", "template"), ("template", "variable"), ("variable", "variable"),
          ("variable", "template")]
SIGNS = [chr(code) for code in range(32, 127)] + ["\n"]


def form_of_line(line):
    """The form of a line and its parts, by the words of the document alone."""
    for form, pattern in FORMS.items():
        match = re.fullmatch(pattern, line)
        if match:
            fields = [part.split(",") for part in match.groups() if "," in part]
            ascending = all(one < other for words in fields for one, other in itertools.pairwise(words))
            return (form, match.groups()) if ascending else (None, ())
    return None, ()


def first_wrong_line(text):
    """The number of the first line that cannot stand there, or None."""
    lines, ahead = text.split("\n"), ""
    for number, line in enumerate(lines, start=1):
        last = number == len(lines)
        form = form_of_line(line)[0]
        if last and (line or ahead != "variable"):
            return number
        if not last and (ahead, form) not in ORDERS:
            return number
        ahead = form
    return None


def words_of(part):
    return [] if part == "-" else part.split(",")


def made_of(text):
    """The catalog that a text of the right form tells of, made by hand."""
    kinds, templates = [], []
    for line in text.split("\n")[:-1]:
        form, parts = form_of_line(line)
        if form == "kind":
            kinds.append((parts[1], words_of(parts[2]), parts[0] == "single"))
        elif form == "template":
            templates.append((parts[0], []))
        else:
            templates[-1][1].append((parts[0], *map(words_of, parts[1:])))
    kinds = [Kind(name, words, single=single) for name, words, single in kinds]
    schema = Schema(kinds)
    templates = [Template(name, variables) for name, variables in templates]
    return Catalog(schema, templates)


def outcome(call):
    """The catalog that a call returns, or what its error consists of."""
    try:
        return call()
    except SeenError as error:
        return type(error), vars(error)


class TextCase(unittest.TestCase):
    def check_bad_text(self, text, line):
        with self.assertRaises(BadText) as context:
            Catalog.of_text(text)
        self.assertEqual(context.exception.line, line, text)
        self.assertIs(type(context.exception.line), int)

    def check_text(self, text):
        """The text leads to what the document says of it; tell how."""
        wrong = first_wrong_line(text)
        if wrong is not None:
            self.check_bad_text(text, wrong)
            return "text"
        expected, got = outcome(lambda: made_of(text)), outcome(lambda: Catalog.of_text(text))
        self.assertEqual(type(got), type(expected))
        self.assertTrue(got == expected, text)
        if isinstance(got, Catalog):
            self.assertEqual(got.text(), text)
        return "catalog" if isinstance(got, Catalog) else got[0].__name__


class BackAndForth(TextCase):
    def test_text(self):
        self.assertEqual(bank_catalog().text(), BANK)
        self.assertIs(type(bank_catalog().text()), str)

    def test_of_text(self):
        catalog = Catalog.of_text(BANK)
        self.assertIs(type(catalog), Catalog)
        self.assertTrue(catalog == bank_catalog())
        self.assertEqual(catalog.schema.names(), ["account", "total"])
        self.assertEqual([catalog.schema[name].single for name in catalog.schema.names()], [False, True])

    def test_argument_by_name_and_off_an_object(self):
        self.assertTrue(Catalog.of_text(text=BANK) == bank_catalog())
        self.assertTrue(bank_catalog().of_text(ODD) == Catalog.of_text(ODD))

    def test_texts_lead_back(self):
        for text in TEXTS:
            self.assertEqual(Catalog.of_text(text).text(), text)
            self.assertEqual(self.check_text(text), "catalog")

    def test_fields_ascend_whatever_the_order(self):
        schema = Schema([Kind("k", ("d", "b", "c", "a")), Kind("a", ["x"], single=True)])
        catalog = Catalog(schema, [Template("z", [("k", ["c", "a", "c"], ["c", "a"], ["d", "b"]), ("a", [], [], [])]),
                                   Template("y", [("a", ["x"], ["x"], ["x"])])])
        self.assertEqual(catalog.text(), "kind k a,b,c,d\nsingle a x\n"
                                         "template z\nk reads a,c cover a,c writes b,d\na reads - cover - writes -\n"
                                         "template y\na reads x cover x writes x\n")
        self.assertTrue(Catalog.of_text(catalog.text()) == catalog)

    def test_covers_that_were_changed(self):
        catalog = bank_catalog().with_cover("move", 1, []).with_cover("move", 2, ["sum"])
        text = BANK.replace("reads limit cover limit,owner", "reads limit cover -")
        text = text.replace("sum cover -", "sum cover sum")
        self.assertEqual(catalog.text(), text)
        self.assertTrue(Catalog.of_text(text) == catalog)

    def test_largest_catalog(self):
        names = ["abcdefg" + letter for letter in "abcd"]
        fields = ["zyxwvut" + letter for letter in "abcd"]
        variables = [(name, fields, fields, fields) for name in names[:3]]
        catalog = Catalog(Schema([Kind(name, fields) for name in names]),
                          [Template("qwertyu" + letter, variables) for letter in "fedcba"])
        self.assertEqual(self.check_text(catalog.text()), "catalog")
        self.assertTrue(Catalog.of_text(catalog.text()) == catalog)
        self.assertLess(len(catalog.text()), 6000)


class WrongTexts(TextCase):
    def test_texts_without_lines_or_without_variables(self):
        for text, line in [("", 1), ("\n", 1), ("\n\n", 1), ("kind", 1), ("-", 1), ("kind a b", 1), ("kind a b\n", 2),
                           ("kind a b\nsingle c d\n", 3), ("kind a b\ntemplate f\n", 3), ("kind a b\ntemplate f", 2),
                           ("kind a b\ntemplate f\na reads - cover - writes -", 3),
                           ("kind a b\ntemplate f\na reads - cover - writes -\n\n", 4),
                           ("kind a b\ntemplate f\na reads - cover - writes -\ntemplate g\n", 5),
                           ("template f\n", 1), ("a reads - cover - writes -\n", 1),
                           ("kind a b\na reads - cover - writes -\n", 2)]:
            self.check_bad_text(text, line)
            self.assertEqual(first_wrong_line(text), line)

    def test_last_line_feed_taken_off(self):
        for text in TEXTS:
            self.check_bad_text(text[:-1], text.count("\n"))

    def test_each_beginning_of_a_text(self):
        for text in TEXTS:
            for many in range(len(text) + 1):
                self.check_text(text[:many])
            for many in range(text.count("\n")):
                lines = text.splitlines(keepends=True)[:many]
                if many == 0 or lines[-1].count(" ") < 6:
                    self.check_bad_text("".join(lines), many + 1)

    def test_one_sign_changed_put_in_or_left_out(self):
        found = set()
        for text in TEXTS:
            for at in range(len(text) + 1):
                found.add(self.check_text(text[:at] + text[at + 1:]))
                for sign in SIGNS if text == WIDE else "-,a z\nA0":
                    found.add(self.check_text(text[:at] + sign + text[at:]))
                    found.add(self.check_text(text[:at] + sign + text[at + 1:]))
        self.assertLessEqual({"text", "catalog", "BadCatalog"}, found)

    def test_lines_taken_out_put_twice_and_moved(self):
        for text in TEXTS:
            lines = text.splitlines(keepends=True)
            for at, line in enumerate(lines):
                self.check_text("".join(lines[:at] + lines[at + 1:]))
                self.check_text("".join(lines[:at] + [line] + lines[at:]))
                for to in range(len(lines)):
                    rest = lines[:at] + lines[at + 1:]
                    self.check_text("".join(rest[:to] + [line] + rest[to:]))
                    self.check_text("".join(lines[:to] + [line] + lines[to:]))

    def test_lines_in_any_order(self):
        source = random.Random(5)
        lines = ["kind a b\n", "single c d\n", "template f\n", "template g\n", "a reads - cover - writes b\n",
                 "c reads d cover - writes -\n", "\n", "kind e -\n", "c reads - cover x writes -\n"]
        found = {}
        for turn in range(12000):
            kind = self.check_text("".join(source.choices(lines[:7] if turn % 2 else lines, k=source.randrange(1, 7))))
            found[kind] = found.get(kind, 0) + 1
        self.assertGreater(min(found[kind] for kind in ["text", "catalog", "BadField", "BadKind", "BadCatalog"]), 5)

    def test_words_that_are_none_do_not_ascend_or_occur_twice(self):
        for word in ["A", "a1", "", "abcdefghi", "-", "a,b", "a.b"]:
            self.check_bad_text(BANK.replace("kind account", f"kind {word}", 1), 1)
            self.check_bad_text(BANK.replace("template move", f"template {word}"), 5)
            self.check_bad_text(BANK.replace("total reads", f"{word} reads"), 8)
        for words in ["b,a", "a,a", "a,b,a", "owner,limit", "a,,b", ",a", "a,", ",", "", "--", "-,a", "a,-", "A", "a;b",
                      "abcdefghi", "a,abcdefghi", "1"]:
            self.check_bad_text(BANK.replace("limit,owner\n", words + "\n", 1), 1)
            self.check_bad_text(BANK.replace("total sum", f"total {words}"), 2)
            for part, number in [("reads", 8), ("cover", 8), ("writes", 8)]:
                line = re.sub(f"{part} [a-z,-]+", f"{part} {words}", "total reads sum cover - writes sum")
                self.check_bad_text(BANK.replace("total reads sum cover - writes sum", line), number)

    def test_other_words_in_the_place_of_those_that_are_due(self):
        for old, new, line in [("kind account", "sort account", 1), ("single total", "Single total", 2),
                               ("template add", "templat add", 3), ("reads limit cover -", "read limit cover -", 4),
                               ("reads limit cover -", "reads limit covers -", 4),
                               ("- writes limit", "- write limit", 4),
                               ("reads limit cover -", "cover limit reads -", 4), ("kind account ", "kind account", 1),
                               ("kind account ", "kind account  ", 1), ("template add", " template add", 3),
                               ("template add", "template add ", 3), ("template add", "template\nadd", 3),
                               ("template add\n", "template add\r\n", 3), ("template add", "\ntemplate add", 3)]:
            self.check_bad_text(BANK.replace(old, new, 1), line)

    def test_first_of_several_wrong_lines(self):
        lines = BANK.splitlines()
        for one, other in itertools.combinations(range(len(lines)), 2):
            for wrong in ["", "kind A b", "template", "kind x b,a"]:
                some = list(lines)
                some[one] = some[other] = wrong
                self.check_bad_text("\n".join(some) + "\n", one + 1)
                self.check_bad_text("\n".join(some), one + 1)

    def test_kinds_line_behind_a_variables_line(self):
        self.check_bad_text(BANK + "kind more a\n", 9)
        self.check_bad_text(BANK.replace("template move", "kind more a\ntemplate move"), 5)
        self.check_bad_text(BANK.replace("template add", "template add\nkind more a"), 4)


class OtherErrors(TextCase):
    def check_error(self, text, error, **attributes):
        with self.assertRaises(error) as context:
            Catalog.of_text(text)
        self.assertEqual((type(context.exception), vars(context.exception)), (error, attributes))
        self.check_text(text)

    def test_kinds(self):
        tail = "template f\na reads - cover - writes -\n"
        self.check_error("kind a -\n" + tail, BadField, index=0)
        self.check_error("single a -\n" + tail, BadField, index=0)
        self.check_error("kind a a,b,c,d,e\n" + tail, BadField, index=4)
        self.check_error("kind a b\nsingle c d\nkind e -\n" + tail, BadField, index=0)

    def test_schemas(self):
        tail = "template f\na reads - cover - writes -\n"
        self.check_error("kind a b\nsingle a b\n" + tail, BadKind, index=1)
        self.check_error("".join(f"kind {name} b\n" for name in "abcde") + tail, BadKind, index=4)
        self.check_error("".join(f"kind {name} b\n" for name in "abcb") + tail, BadKind, index=3)

    def test_templates(self):
        line = "a reads - cover - writes -\n"
        self.check_error("kind a b\ntemplate f\n" + line * 4, BadTemplate, index=3, reason="variable")
        self.check_error("kind a b\ntemplate f\n" + line * 3 + "template g\n" + line * 5, BadTemplate, index=3,
                         reason="variable")

    def test_catalogs(self):
        head, line = "kind a b,c\nsingle s d\n", "a reads b cover b writes c\n"
        for text, index, reason in [
            ("".join(f"template {name}\n{line}" for name in "fghijkl"), 6, "template"),
            (f"template f\n{line}template f\n{line}", 1, "name"),
            (f"template f\n{line}template g\n{line}x reads - cover - writes -\n", 1, "kind"),
            ("template f\na reads - cover - writes d\n", 0, "field"),
            ("template f\ns reads - cover - writes -\ns reads - cover - writes -\n", 0, "single"),
            (f"template f\n{line}template g\na reads b cover c writes -\n", 1, "cover"),
        ]:
            self.check_error(head + text, BadCatalog, index=index, reason=reason)

    def test_kinds_ahead_of_schemas_ahead_of_templates_ahead_of_catalogs(self):
        line = "a reads - cover - writes -\n"
        catalog = "template f\nx reads - cover - writes -\n"
        template = catalog + "template g\n" + line * 4
        self.check_error("kind a b\n" + catalog, BadCatalog, index=0, reason="kind")
        self.check_error("kind a b\n" + template, BadTemplate, index=3, reason="variable")
        self.check_error("kind a b\nkind a b\n" + template, BadKind, index=1)
        self.check_error("kind a b\nkind a b\nkind c -\n" + template, BadField, index=0)

    def test_bad_text_ahead_of_all_of_them(self):
        text = "kind a -\nkind a b\nkind a b,c,d,e,f\ntemplate f\n" + "x reads - cover y writes -\n" * 4
        self.check_error(text, BadField, index=0)
        self.check_bad_text(text[:-1], 8)
        self.check_bad_text(text + "template g\n", 10)
        self.check_bad_text(text + "x\n", 9)
        self.check_bad_text(text.replace("y", "y,x", 1), 5)

    def test_no_other_error(self):
        self.assertNotIn(BadWord, [outcome(lambda: Catalog.of_text(text)) for text in ["kind A b\n", "template f\n"]])


if __name__ == "__main__":
    unittest.main()
