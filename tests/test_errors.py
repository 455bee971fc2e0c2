"""Point 9: the errors, their attributes and their messages."""

import copy
import unittest

from handlocks import errors
from handlocks.errors import LockError
from handlocks.webs import Web
from tests.helper import strange_values

WITH_ATTRIBUTE = {
    "BadWeb": "part", "NoParty": "party", "NoHanding": "handing", "BadLaying": "at", "BadDeal": "part",
    "BadNumber": "number", "BadRule": "part", "NotNow": "word", "BadJournal": "at", "BadText": "line",
}
WITH_MESSAGE = ["BadLeaders", "BadKeepers", "BadCourse", "NothingDone"]


class TestErrors(unittest.TestCase):
    def test_all_fourteen_stand_directly_below_lock_error(self):
        names = list(WITH_ATTRIBUTE) + WITH_MESSAGE
        self.assertEqual(len(names), 14)
        self.assertEqual(LockError.__bases__, (ValueError,))
        for name in names:
            self.assertEqual(getattr(errors, name).__bases__, (LockError,), name)
        found = [name for name, value in vars(errors).items()
                 if isinstance(value, type) and issubclass(value, BaseException)]
        self.assertEqual(sorted(found), sorted(names + ["LockError"]))

    def test_attribute_is_any_value(self):
        for name, attribute in WITH_ATTRIBUTE.items():
            for value in strange_values() + ["web", ("a", "b"), 3]:
                error = getattr(errors, name)(value)
                self.assertEqual(getattr(error, attribute), value, name)
                self.assertIs(type(getattr(error, attribute)), type(value), name)
                self.assertEqual(list(vars(error)), [attribute])
                self.assertTrue(str(error))

    def test_attribute_by_name(self):
        for name, attribute in WITH_ATTRIBUTE.items():
            error = getattr(errors, name)(**{attribute: "x"})
            self.assertEqual(getattr(error, attribute), "x")

    def test_attribute_is_needed(self):
        for name in WITH_ATTRIBUTE:
            with self.assertRaises(TypeError):
                getattr(errors, name)()

    def test_attribute_is_copied_at_every_depth(self):
        for name, attribute in WITH_ATTRIBUTE.items():
            value = [["a"], ({"a": ["b"]},), {"c": [1]}]
            before = copy.deepcopy(value)
            error = getattr(errors, name)(value)
            value[0].append("z")
            value[1][0]["a"].append("z")
            value[2]["c"].append("z")
            value.append("z")
            self.assertEqual(getattr(error, attribute), before)

    def test_an_object_as_attribute_is_the_object(self):
        web = Web(["a", "b"], [("a", "b")])
        self.assertIs(errors.NoParty(web).party, web)

    def test_message(self):
        for name in WITH_MESSAGE + ["LockError"]:
            self.assertEqual(str(getattr(errors, name)("so it is")), "so it is")

    def test_are_caught_as_lock_error_and_value_error(self):
        for name in list(WITH_ATTRIBUTE) + WITH_MESSAGE:
            for base in (LockError, ValueError):
                with self.assertRaises(base):
                    raise getattr(errors, name)("x")

    def test_are_not_iterated_over_and_equal_nothing_else(self):
        for name in list(WITH_ATTRIBUTE) + WITH_MESSAGE + ["LockError"]:
            error = getattr(errors, name)("x")
            with self.assertRaises(TypeError):
                iter(error)
            for value in strange_values() + ["x"]:
                self.assertFalse(error == value)


if __name__ == "__main__":
    unittest.main()
