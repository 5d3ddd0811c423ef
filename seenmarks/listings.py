"""The lines of the texts of catalogs."""

from seenmarks.checks import is_word
from seenmarks.errors import BadText
from seenmarks.texts import is_words_text, split_lines, words_of_text, words_text

# By the form of a line, the forms that the line ahead of it may have; ahead of the first line is the start.
AHEAD = {"kind": ("start", "kind"), "template": ("kind", "variable"), "variable": ("template", "variable")}


def kind_line(kind):
    """Return the line of a kind."""
    word = "single" if kind.single else "kind"
    return f"{word} {kind.name} {words_text(kind.fields().words())}"


def template_lines(template):
    """Return the list of the lines of a template."""
    return [f"template {template.name}"] + [
        f"{kind} reads {words_text(reads)} cover {words_text(cover)} writes {words_text(writes)}"
        for kind, reads, cover, writes in template.variables()
    ]


def form_of(parts):
    """Return the form of a line of these parts, or None if a line of no form has them."""
    if len(parts) == 2 and parts[0] == "template" and is_word(parts[1]):
        return "template"
    if len(parts) == 3 and parts[0] in ("kind", "single") and is_word(parts[1]) and is_words_text(parts[2]):
        return "kind"
    if len(parts) == 7 and is_word(parts[0]) and parts[1::2] == ["reads", "cover", "writes"]:
        return "variable" if all([is_words_text(part) for part in parts[2::2]]) else None
    return None


def read_lines(text):
    """Return a list of tuples (form, parts), one for each line; raise BadText for the first line that is wrong."""
    lines, rest = split_lines(text)
    read = []
    ahead = "start"
    for index, line in enumerate(lines):
        parts = line.split(" ")
        form = form_of(parts)
        if form is None or ahead not in AHEAD[form]:
            raise BadText(index + 1)
        read.append((form, parts))
        ahead = form
    if rest or ahead != "variable":
        raise BadText(len(lines) + 1)
    return read


def read_listing(text):
    """Return what a text tells: a list of tuples (name, fields, single), and one of tuples (name, variables)."""
    kinds = []
    templates = []
    for form, parts in read_lines(text):
        if form == "kind":
            kinds.append((parts[1], words_of_text(parts[2]), parts[0] == "single"))
        elif form == "template":
            templates.append((parts[1], []))
        else:
            reads, cover, writes = [words_of_text(part) for part in parts[2::2]]
            templates[-1][1].append((parts[0], reads, cover, writes))
    return kinds, templates
