"""What the document promises over the whole program."""

import importlib
import inspect
import unittest
from pathlib import Path

from refusals import RefusalCase
from weavehall import errors
from weavehall.cloths import checked, threads
from weavehall.colours import cloth_for, colours_for, shown_by
from weavehall.hanging import a_lift, is_lift, layers, lifts_with, woven_as_one
from weavehall.looms import checked_loom, cloth_of
from weavehall.texts import read
from weavehall.weaves import float_of, twill

PLAIN = ((1, 0), (0, 1))
LAYERED = ((1, 1, 0), (1, 0, 0))
KNOTTED = ((0, 1, 2), (1, 2, 0))
INTERFACE = {
    "cloths": {"checked": "cloth", "threads": "cloth", "above": "cloth one other"},
    "looms": {"checked_loom": "loom", "cloth_of": "loom", "least_loom": "cloth"},
    "weaves": {"float_of": "cloth thread", "longest_float": "cloth", "twill": "bits step", "satin": "size step",
               "is_even": "cloth"},
    "hanging": {"lifts_with": "cloth thread", "is_lift": "cloth some", "layers": "cloth", "hangs_together": "cloth",
                "a_lift": "cloth", "woven_as_one": "upper lower"},
    "colours": {"shown_by": "cloth warps wefts", "cloth_for": "picture warps wefts", "colours_for": "picture"},
    "turns": {"turned_over": "cloth", "mirrored": "cloth", "turned_about": "cloth", "moved_on": "cloth wefts warps",
              "is_one_weave": "one other"},
    "texts": {"shown": "cloth", "read": "text"},
}
REFUSALS = [
    (errors.BadCloth, checked, ((2,),)),
    (errors.BadLoom, checked_loom, ()),
    (errors.BadLoom, cloth_of, ()),
    (errors.NoThread, float_of, PLAIN, ("warp", 2)),
    (errors.NoThread, lifts_with, PLAIN, ("warp", 2)),
    (errors.NoThread, is_lift, PLAIN, [("warp", 2)]),
    (errors.TooBig, woven_as_one, ((1,) * 9,), PLAIN),
    (errors.BadColours, shown_by, PLAIN, [0, 3], [0, 0]),
    (errors.BadColours, cloth_for, PLAIN, [0, 0], [0]),
    (errors.BadText, read, "#-"),
]
LIST_TELLERS = [
    lambda: threads(PLAIN), lambda: lifts_with(PLAIN, ("warp", 0)), lambda: lifts_with(LAYERED, ("warp", 0)),
    lambda: layers(PLAIN), lambda: layers(LAYERED), lambda: a_lift(LAYERED), lambda: colours_for(PLAIN),
    lambda: colours_for(KNOTTED),
]


def lists_within(thing):
    """The thing's lists, itself among them, the inner ones first."""
    if not isinstance(thing, (list, tuple)):
        return []
    found = [inner for part in thing for inner in lists_within(part)]
    return found + [thing] if isinstance(thing, list) else found


def package_modules():
    folder = Path(errors.__file__).resolve().parent
    return [importlib.import_module(f"weavehall.{path.stem}") for path in sorted(folder.glob("[a-z]*.py"))]


class InterfaceTest(unittest.TestCase):
    def test_every_name_is_there_with_its_arguments(self):
        for module, functions in INTERFACE.items():
            for name, arguments in functions.items():
                with self.subTest(module=module, name=name):
                    found = getattr(importlib.import_module(f"weavehall.{module}"), name)
                    self.assertEqual(list(inspect.signature(found).parameters), arguments.split())


class RefusalsTest(RefusalCase):
    def test_each_refusal_is_by_its_own_class(self):
        for error_class, call, *handed in REFUSALS:
            with self.subTest(call=call.__name__):
                self.assert_refused(error_class, call, *handed)
                with self.assertRaises(errors.WeaveError):
                    call(*handed)

    def test_each_class_is_raised_by_some_refusal(self):
        names = {error_class.__name__ for error_class, *rest in REFUSALS}
        self.assertEqual(names, {"BadCloth", "BadLoom", "NoThread", "TooBig", "BadColours", "BadText"})


class NothingKeptTest(RefusalCase):
    def test_lists_that_are_told_are_new_ones_each_time(self):
        for tell in LIST_TELLERS:
            first, second = tell(), tell()
            self.assertEqual(first, second)
            every = lists_within(first) + lists_within(second)
            self.assertNotEqual(every, [])
            self.assertEqual(len({id(one) for one in every}), len(every))
            for one in lists_within(first):
                one.clear()
            self.assertEqual(tell(), second)

    def test_lists_that_are_handed_in_are_not_changed(self):
        some, warps, wefts, bits = [("weft", 1), ("warp", 0), ("warp", 0)], [2, 0], [1, 1], [1, 0, 0]
        is_lift(PLAIN, some)
        shown_by(PLAIN, warps, wefts)
        cloth_for(PLAIN, warps, wefts)
        cloth_for(((2, 1), (1, 0)), warps, wefts)
        twill(bits, 1)
        self.assertEqual(some, [("weft", 1), ("warp", 0), ("warp", 0)])
        self.assertEqual((warps, wefts, bits), ([2, 0], [1, 1], [1, 0, 0]))

    def test_lists_that_are_refused_are_not_changed(self):
        some, colours = [("warp", 1), ("warp", 2)], [0, True]
        self.assert_refused(errors.NoThread, is_lift, PLAIN, some)
        self.assert_refused(errors.BadColours, shown_by, PLAIN, colours, [0, 0])
        self.assert_refused(errors.BadColours, cloth_for, PLAIN, [0, 0], colours)
        self.assertEqual(some, [("warp", 1), ("warp", 2)])
        self.assertIs(colours[1], True)

    def test_what_is_told_does_not_follow_the_lists_handed_in(self):
        warps, wefts = [2, 0], [1, 1]
        told, cloth = shown_by(PLAIN, warps, wefts), cloth_for(((2, 1), (1, 0)), warps, wefts)
        warps[0] = wefts[0] = 0
        self.assertEqual((told, cloth), (((2, 1), (1, 0)), PLAIN))
        self.assertEqual(shown_by(PLAIN, warps, wefts), ((0, 0), (1, 0)))

    def test_the_package_has_no_place_to_keep_things(self):
        for module in package_modules():
            for name, value in vars(module).items():
                if not name.startswith("__"):
                    with self.subTest(module=module.__name__, name=name):
                        self.assertNotIsInstance(value, (list, dict, set))
                        self.assertIn(getattr(value, "__defaults__", None), (None, ()))


if __name__ == "__main__":
    unittest.main()
