"""The refusals: the interface's section writeorders/errors.py."""

import inspect
import unittest

from tests.things import SIXTY_FIGURES, Prickly
from writeorders import errors

REFUSALS = {
    ValueError: {
        "NoSize": ["number"], "NoImage": [], "Broken": [], "NoDeed": [], "Wrong": ["path"],
        "NotEmpty": ["path"], "Within": ["path"], "NoStep": ["number"], "NoRule": ["word"],
        "NoText": ["row"], "NoRow": [],
    },
    LookupError: {
        "NoPath": ["path"], "NoPage": ["page"], "NoChange": ["number"], "NoLeak": [], "NoSystem": [],
    },
    IndexError: {"NoPart": ["number"]},
    KeyError: {"There": ["path"]},
    OverflowError: {"Full": ["word"], "TooMany": ["many"], "NoNumber": ["number"]},
    RuntimeError: {"NoTime": []},
}


def rows():
    for base, words in REFUSALS.items():
        for word, fields in words.items():
            yield base, getattr(errors, word), fields


class Refusals(unittest.TestCase):
    def test_each_is_under_its_class_and_under_none_besides(self):
        for base, refusal, _ in rows():
            with self.subTest(refusal=refusal.__name__):
                self.assertEqual(refusal.__bases__, (base,))
                self.assertEqual(refusal.__module__, "writeorders.errors")

    def test_all_are_there_and_none_more(self):
        told = {name for name, _ in inspect.getmembers(errors, inspect.isclass)}
        self.assertEqual(told, {name for words in REFUSALS.values() for name in words})

    def test_none_is_caught_as_another_one(self):
        classes = [refusal for _, refusal, _ in rows()]
        for one in classes:
            for other in classes:
                self.assertEqual(issubclass(one, other), one is other)

    def test_fields_are_set_by_place_and_by_name(self):
        for _, refusal, fields in rows():
            for worth in (0, -1, SIXTY_FIGURES, True, None, "", "word", (), ("a", "b"), [1], {}, Prickly()):
                with self.subTest(refusal=refusal.__name__):
                    by_place = refusal(*[worth for _ in fields])
                    by_name = refusal(**{field: worth for field in fields})
                    for field in fields:
                        self.assertIs(getattr(by_place, field), worth)
                        self.assertIs(getattr(by_name, field), worth)

    def test_too_few_or_too_many_fields_are_no_refusal(self):
        for _, refusal, fields in rows():
            if fields:
                with self.subTest(refusal=refusal.__name__):
                    self.assertRaises(TypeError, refusal)
                    self.assertRaises(TypeError, refusal, *range(len(fields) + 1))

    def test_each_is_raised_and_caught(self):
        for base, refusal, fields in rows():
            with self.assertRaises(base) as held:
                raise refusal(*fields)
            for field in fields:
                self.assertEqual(getattr(held.exception, field), field)


if __name__ == "__main__":
    unittest.main()
