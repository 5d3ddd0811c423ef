"""Histories of updates: what they read, how they depend on one another, and their texts."""

from seenmarks.checks import is_word
from seenmarks.errors import BadText
from seenmarks.steps import record_of
from seenmarks.texts import is_number_text, split_lines


def replay(catalog, history):
    """Return the list of the bools that tell of each step whether it is accepted."""
    return record_of(catalog, history).verdicts


def reads(catalog, history):
    """Return, for each step, the list of the tuples (variable, field, writer) of what it reads."""
    record = record_of(catalog, history)
    return [
        [
            (variable, field, record.last_writer(moment, (resource, field)))
            for variable, (part, resource, moment) in enumerate(step.rows()) for field in part.read_set.words()
        ]
        for step in record.steps
    ]


def readers_by_place(record):
    """Return a dict of the lists of the pairs (index, moment) of the accepted updates that read a place."""
    found = {}
    for index, step in record.accepted_steps():
        for part, resource, moment in step.rows():
            for field in part.read_set.words():
                found.setdefault((resource, field), []).append((index, moment))
    return found


def dependencies_at(place, writers, readers):
    """Return the list of the dependencies at one place, from those that wrote it and those that read it."""
    resource, field = place
    found = [(one, other, "write", resource, field) for one in writers for other in writers if one < other]
    for writer in writers:
        for reader, moment in readers:
            # An update never reads what it wrote itself, as its moments are at most its index.
            if moment > writer:
                found.append((writer, reader, "read", resource, field))
            elif reader != writer:
                found.append((reader, writer, "miss", resource, field))
    return found


def dependencies_of(record):
    """Return the ascending list of all dependencies in a record."""
    readers = readers_by_place(record)
    found = []
    for place, writers in record.writers.items():
        found.extend(dependencies_at(place, writers, readers.get(place, [])))
    return sorted(found)


def dependencies(catalog, history):
    """Return the list of all dependencies of a history, tuples (i, j, word, resource, field), ascending."""
    return dependencies_of(record_of(catalog, history))


def history_text(history):
    """Return a history as a text, with a line for each step."""
    lines = []
    for name, resources, moments in history:
        parts = [f"{kind}/{number}@{moment}" for (kind, number), moment in zip(resources, moments)]
        lines.append(" ".join([name] + parts) + "\n")
    return "".join(lines)


def read_part(part):
    """Return the pair (resource, moment) of a text such as `account/3@0`, or None of any other one."""
    kind, slash, rest = part.partition("/")
    number, sign, moment = rest.partition("@")
    if not (is_word(kind) and is_number_text(number) and is_number_text(moment)):
        return None
    return (kind, int(number)), int(moment)


def read_step(line):
    """Return the step of a line, or None of a line that is not one of a step."""
    name, *parts = line.split(" ")
    pairs = [read_part(part) for part in parts]
    if not is_word(name) or not pairs or any([pair is None for pair in pairs]):
        return None
    return name, [resource for resource, moment in pairs], [moment for resource, moment in pairs]


def read_history(text):
    """Return the list of the steps of a text; raise BadText for the first line that is not one of a step."""
    lines, rest = split_lines(text)
    steps = []
    for index, line in enumerate(lines):
        step = read_step(line)
        if step is None:
            raise BadText(index + 1)
        steps.append(step)
    if rest:
        raise BadText(len(lines) + 1)
    return steps
