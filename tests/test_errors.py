"""[9]: refusals, their families and their fields."""

import unittest

from drawerways import errors

from things import HUGE, NEVER, SMALL

FAMILIES = {
    "PaperError": {"NoPaper": ("word", "at"), "NoOrder": ("paper",)},
    "RunError": {"NoHand": ("hand",), "NoStep": ("word",), "NoBack": ("times",)},
    "TextError": {"NoText": ("line", "word"), "NoLine": ("line",)},
}


class Untouchable:
    """A thing that can't be looked at in any way."""

    def looked_at(self, *_):
        raise AssertionError("looked at")

    __eq__ = __hash__ = __repr__ = __str__ = __len__ = __bool__ = __iter__ = __lt__ = __format__ = looked_at


def refusals():
    for family, members in FAMILIES.items():
        for name, fields in members.items():
            yield getattr(errors, family), getattr(errors, name), fields


class Errors(unittest.TestCase):
    def test_base(self):
        self.assertEqual(errors.DrawerError.__bases__, (ValueError,))

    def test_families_stand_straight_under_the_base(self):
        for family in FAMILIES:
            self.assertEqual(getattr(errors, family).__bases__, (errors.DrawerError,))

    def test_refusals_stand_straight_under_their_families(self):
        for family, refusal, _ in refusals():
            self.assertEqual(refusal.__bases__, (family,))

    def test_all_are_defined_there(self):
        for family, refusal, _ in refusals():
            self.assertEqual(family.__module__, "drawerways.errors")
            self.assertEqual(refusal.__module__, "drawerways.errors")

    def test_taken_by_own_name_family_and_base(self):
        for family, refusal, fields in refusals():
            for name in (refusal, family, errors.DrawerError, ValueError):
                with self.assertRaises(name):
                    raise refusal(*range(len(fields)))
            others = {other for other, _, _ in refusals()} - {family}
            for other in others:
                self.assertFalse(issubclass(refusal, other))

    def test_families_and_base_are_raised_themselves(self):
        for family, _, _ in refusals():
            with self.assertRaises(errors.DrawerError):
                raise family()

    def test_fields_by_place(self):
        for _, refusal, fields in refusals():
            things = [["thing", place] for place in range(len(fields))]
            refused = refusal(*things)
            for field, thing in zip(fields, things):
                self.assertIs(getattr(refused, field), thing)

    def test_fields_by_name_in_any_order(self):
        for _, refusal, fields in refusals():
            things = {field: [field] for field in reversed(fields)}
            refused = refusal(**things)
            for field in fields:
                self.assertIs(getattr(refused, field), things[field])

    def test_just_these_fields(self):
        for _, refusal, fields in refusals():
            with self.assertRaises(TypeError):
                refusal(*range(len(fields) + 1))
            with self.assertRaises(TypeError):
                refusal(*range(len(fields) - 1))
            self.assertEqual(set(vars(refusal(*range(len(fields))))), set(fields))

    def test_any_things_are_kept_the_very_things(self):
        for _, refusal, fields in refusals():
            for thing in NEVER + [SMALL, HUGE, 0, 1, "a", [[]]]:
                refused = refusal(*[thing] * len(fields))
                for field in fields:
                    self.assertIs(getattr(refused, field), thing)

    def test_things_are_looked_at_in_no_way(self):
        for _, refusal, fields in refusals():
            things = [Untouchable() for _ in fields]
            by_place = refusal(*things)
            by_name = refusal(**dict(zip(fields, things)))
            for field, thing in zip(fields, things):
                self.assertIs(getattr(by_place, field), thing)
                self.assertIs(getattr(by_name, field), thing)

    def test_two_refusals_know_nothing_of_one_another(self):
        one, other = errors.NoPaper("shape", -1), errors.NoPaper("told", 3)
        self.assertEqual((one.word, one.at, other.word, other.at), ("shape", -1, "told", 3))


if __name__ == "__main__":
    unittest.main()
