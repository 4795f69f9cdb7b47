"""The refusals: their words, values and base classes (point [1], the interface's errors.py)."""

import copy
import unittest

from tearboard import errors

UNDER_TEAR_ERROR = {
    "BadColours": ("at",),
    "BadFigure": ("at",),
    "Meeting": ("one", "other"),
    "TooMany": ("most",),
    "TooFar": ("most",),
    "BadOrder": (),
    "OtherColours": (),
    "OtherBook": (),
    "BadRow": ("at",),
    "BadNote": ("note",),
    "BadBeneath": (),
    "Full": ("pad",),
    "NoEnd": ("pad",),
    "NotStanding": ("figure",),
    "NeverClear": ("pad",),
    "BadDeed": (),
    "BadNumber": ("number",),
    "NoBeginning": (),
    "Barred": ("pad",),
    "BadHeights": ("at",),
    "BadWeights": ("at",),
    "NoMean": (),
    "BadText": ("at",),
}
UNDER_MISSING = {"NoPad": ("pad",), "NoFigure": ("figure",), "NoNote": ("depth",)}
UNDER_STUCK = {"NothingBack": (), "NothingAgain": ()}
FAMILIES = (
    ("TearError", ValueError, UNDER_TEAR_ERROR),
    ("Missing", LookupError, UNDER_MISSING),
    ("Stuck", RuntimeError, UNDER_STUCK),
)
SAMPLES = (-1, 10 ** 30 - 1)


def all_refusals():
    """Every refusal as (class, base class, names of its values)."""
    return [
        (getattr(errors, word), getattr(errors, base), names)
        for base, above, family in FAMILIES
        for word, names in family.items()
    ]


class Refusals(unittest.TestCase):
    def test_there_are_twenty_eight_and_no_other_classes(self):
        told = {name for name in vars(errors) if isinstance(getattr(errors, name), type)}
        listed = {base for base, above, family in FAMILIES}
        for base, above, family in FAMILIES:
            listed |= set(family)
        self.assertEqual(told, listed)
        self.assertEqual(len(all_refusals()), 28)

    def test_base_classes_stand_under_pythons_own(self):
        for base, above, family in FAMILIES:
            self.assertEqual(getattr(errors, base).__bases__, (above,), base)

    def test_each_refusal_is_straight_under_its_base(self):
        for kind, base, names in all_refusals():
            self.assertEqual(kind.__bases__, (base,), kind)

    def test_no_refusal_is_under_another(self):
        kinds = [kind for kind, base, names in all_refusals()]
        for kind in kinds:
            for other in kinds:
                self.assertEqual(issubclass(kind, other), kind is other, (kind, other))

    def test_word_is_the_name_of_the_class(self):
        for base, above, family in FAMILIES:
            for word, names in family.items():
                refusal = getattr(errors, word)(*SAMPLES[:len(names)])
                self.assertEqual(refusal.word, word)
                self.assertEqual(type(refusal).__name__, word)

    def test_base_classes_bear_their_word_too(self):
        for base, above, family in FAMILIES:
            self.assertEqual(getattr(errors, base)().word, base)

    def test_values_by_place_are_borne_under_their_names(self):
        for kind, base, names in all_refusals():
            values = SAMPLES[:len(names)]
            refusal = kind(*values)
            self.assertEqual(tuple(getattr(refusal, name) for name in names), values, kind)

    def test_values_by_name(self):
        for kind, base, names in all_refusals():
            given = dict(zip(names, SAMPLES))
            refusal = kind(**given)
            self.assertEqual({name: getattr(refusal, name) for name in names}, given, kind)

    def test_nothing_but_the_word_and_the_values_is_borne(self):
        for kind, base, names in all_refusals():
            self.assertEqual(set(vars(kind(*SAMPLES[:len(names)]))), {"word", *names}, kind)

    def test_another_count_of_values_is_not_taken(self):
        for kind, base, names in all_refusals():
            with self.assertRaises(TypeError, msg=kind):
                kind(*range(len(names) + 1))
            if names:
                with self.assertRaises(TypeError, msg=kind):
                    kind(*range(len(names) - 1))

    def test_each_can_be_raised_and_caught_by_its_base_and_pythons_own(self):
        for base, above, family in FAMILIES:
            for word, names in family.items():
                for caught in (getattr(errors, word), getattr(errors, base), above):
                    with self.assertRaises(caught):
                        raise getattr(errors, word)(*SAMPLES[:len(names)])

    def test_a_copy_bears_the_same(self):
        for kind, base, names in all_refusals():
            refusal = kind(*SAMPLES[:len(names)])
            self.assertEqual(vars(copy.copy(refusal)), vars(refusal))


if __name__ == "__main__":
    unittest.main()
