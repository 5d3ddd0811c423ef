"""Catalogs, which are schemas with templates of updates."""

from seenmarks.checks import is_int, is_list
from seenmarks.errors import BadCatalog, BadCover, BadVariable, UnknownTemplate
from seenmarks.fields import Fields, is_field_set
from seenmarks.kinds import Kind, Schema
from seenmarks.listings import kind_line, read_listing, template_lines
from seenmarks.templates import Template

MOST_TEMPLATES = 6


def may_cover(kind, reads, cover):
    """Tell whether these fields of a kind may be the cover where these are read."""
    return cover.within(reads) or cover == kind.fields()


def has_two_of_a_single_kind(schema, template):
    """Tell whether two variables of a template have one single kind."""
    names = [part.kind for part in template.parts if schema[part.kind].single]
    return len(set(names)) < len(names)


def fault_of_template(schema, earlier, thing):
    """Return the reason why a thing cannot be a template behind those with the earlier names, or None if it can."""
    if not isinstance(thing, Template) or len(earlier) == MOST_TEMPLATES:
        return "template"
    if thing.name in earlier:
        return "name"
    if not all([part.kind in schema for part in thing.parts]):
        return "kind"
    pairs = [(schema[part.kind], part) for part in thing.parts]
    if not all([(part.read_set | part.cover_set | part.write_set).within(kind.fields()) for kind, part in pairs]):
        return "field"
    if has_two_of_a_single_kind(schema, thing):
        return "single"
    if not all([may_cover(kind, part.read_set, part.cover_set) for kind, part in pairs]):
        return "cover"
    return None


def check_templates(schema, templates):
    """Raise BadCatalog unless this is a list of one to six templates that fit the schema and one another."""
    if not is_list(templates) or len(templates) == 0:
        raise BadCatalog(0, "template")
    earlier = []
    for index, thing in enumerate(templates):
        reason = fault_of_template(schema, earlier, thing)
        if reason is not None:
            raise BadCatalog(index, reason)
        earlier.append(thing.name)


def part_of(catalog, name, variable):
    """Return the Variable with this number of the template with this name."""
    parts = catalog[name].parts
    if not is_int(variable) or not 0 <= variable < len(parts):
        raise BadVariable(variable)
    return parts[variable]


def cover_of(catalog, part, thing):
    """Return a thing as the Fields that are the cover of a variable; raise BadCover if it may not be that."""
    if not is_field_set(thing):
        raise BadCover()
    cover = Fields(thing)
    if not may_cover(catalog.schema[part.kind], part.read_set, cover):
        raise BadCover()
    return cover


class Catalog:
    """A schema with a list of templates with different names. It never changes."""

    def __init__(self, schema, templates):
        check_templates(schema, templates)
        self.schema = schema
        self.templates = tuple(templates)

    def names(self):
        """Return the list of the names of the templates, in the given order."""
        return [template.name for template in self.templates]

    def with_cover(self, name, variable, cover):
        """Return the catalog that differs from this one in the cover of one variable."""
        covered = cover_of(self, part_of(self, name, variable), cover)
        variables = self[name].variables()
        kind, reads, earlier, writes = variables[variable]
        variables[variable] = (kind, reads, covered, writes)
        changed = Template(name, variables)
        return Catalog(self.schema, [changed if changed.name == known.name else known for known in self.templates])

    def text(self):
        """Return the catalog as a text: a line for each kind, each template and each variable."""
        lines = [kind_line(self.schema[name]) for name in self.schema.names()]
        for template in self.templates:
            lines.extend(template_lines(template))
        return "".join([line + "\n" for line in lines])

    @staticmethod
    def of_text(text):
        """Return the catalog with this text."""
        kinds, templates = read_listing(text)
        schema = Schema([Kind(name, fields, single=single) for name, fields, single in kinds])
        return Catalog(schema, [Template(name, variables) for name, variables in templates])

    def __len__(self):
        return len(self.templates)

    def __contains__(self, x):
        return x in self.names()

    def __getitem__(self, at):
        for template in self.templates:
            if template.name == at:
                return template
        raise UnknownTemplate(at)

    # Without this, Python would iterate by getting the items 0, 1 and so on.
    def __iter__(self):
        raise TypeError("a catalog is not iterated over")

    def __eq__(self, other):
        return isinstance(other, Catalog) and self.schema == other.schema and self.templates == other.templates
