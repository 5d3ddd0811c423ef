"""The errors: points 4 and 46 of the document."""

import unittest

from seenmarks import errors
from seenmarks.errors import SeenError
from tests.samples import any_objects

ATTRIBUTES = {
    "BadField": ["index"],
    "UnknownField": ["field"],
    "BadWord": ["word"],
    "BadKind": ["index"],
    "UnknownKind": ["name"],
    "BadResource": ["resource"],
    "BadCount": ["count"],
    "BadTag": ["thing"],
    "BadValue": ["value"],
    "NoWrite": ["resource", "field"],
    "Rejected": ["number", "stale"],
    "Unlabelled": ["number"],
    "BadFlag": ["flag"],
    "Offline": [],
    "BadTemplate": ["index", "reason"],
    "BadCopies": ["index"],
    "BadValues": [],
    "BadCatalog": ["index", "reason"],
    "UnknownTemplate": ["name"],
    "BadVariable": ["variable"],
    "BadCover": [],
    "BadStep": ["index"],
    "BadText": ["line"],
}


def error_class(name):
    return getattr(errors, name)


class Classes(unittest.TestCase):
    def test_module_has_just_these_classes(self):
        classes = [name for name, value in vars(errors).items() if isinstance(value, type)]
        self.assertEqual(sorted(classes), sorted([*ATTRIBUTES, "SeenError"]))

    def test_seen_error_is_a_direct_subclass_of_value_error(self):
        self.assertEqual(SeenError.__bases__, (ValueError,))
        self.assertEqual(vars(SeenError()), {})

    def test_all_others_are_direct_subclasses_of_seen_error(self):
        for name in ATTRIBUTES:
            self.assertEqual(error_class(name).__bases__, (SeenError,), name)

    def test_each_is_of_no_other_class(self):
        for name, attributes in ATTRIBUTES.items():
            error = error_class(name)(*attributes)
            self.assertIsInstance(error, ValueError)
            self.assertIsInstance(error, SeenError)
            others = [other for other in ATTRIBUTES if isinstance(error, error_class(other))]
            self.assertEqual(others, [name])

    def test_each_is_raised_and_caught(self):
        for name, attributes in ATTRIBUTES.items():
            for caught in [error_class(name), SeenError, ValueError]:
                error = error_class(name)(*attributes)
                with self.assertRaises(caught) as context:
                    raise error
                self.assertIs(context.exception, error)


class Attributes(unittest.TestCase):
    def check(self, name, error, things):
        self.assertEqual(sorted(vars(error)), sorted(ATTRIBUTES[name]))
        for attribute, thing in zip(ATTRIBUTES[name], things):
            self.assertIs(getattr(error, attribute), thing, name)

    def test_created_by_position_with_any_objects(self):
        for name, attributes in ATTRIBUTES.items():
            objects = any_objects()
            for things in zip(objects, reversed(objects)):
                things = things[:len(attributes)]
                self.check(name, error_class(name)(*things), things)

    def test_created_by_name_with_any_objects(self):
        for name, attributes in ATTRIBUTES.items():
            objects = any_objects()
            for things in zip(objects, reversed(objects)):
                things = things[:len(attributes)]
                self.check(name, error_class(name)(**dict(zip(attributes, things))), things)

    def test_names_in_another_order(self):
        for name, attributes in ATTRIBUTES.items():
            things = [["first"], ["second"]][:len(attributes)]
            named = dict(reversed(list(zip(attributes, things))))
            self.check(name, error_class(name)(**named), things)

    def test_a_list_that_is_changed_later_is_changed_in_the_error(self):
        for name, attributes in ATTRIBUTES.items():
            things = [[attribute, []] for attribute in attributes]
            error = error_class(name)(*things)
            for thing in things:
                thing[1].append(1)
                thing.append("more")
            for attribute in attributes:
                self.assertEqual(getattr(error, attribute), [attribute, [1], "more"])

    def test_each_object_has_its_own_attributes(self):
        for name, attributes in ATTRIBUTES.items():
            error = error_class(name)(*[0] * len(attributes))
            error_class(name)(*[1] * len(attributes))
            self.check(name, error, [0] * len(attributes))


if __name__ == "__main__":
    unittest.main()
