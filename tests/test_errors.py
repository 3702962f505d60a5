import unittest

from metbefore import bounds, errors

STRAIGHT = {
    "MetError": {
        "NoPaper": ("word", "at"),
        "NoDeed": ("deed", "why"),
        "NoSuch": ("k", "why"),
        "NoText": ("line", "place"),
        "NoMore": ("most",),
        "NoLine": ("row",),
    },
    "LackError": {"NoHand": ("name",), "NoStep": ("number",), "NoMeeting": ("number",)},
}


class Untouched:
    """A thing that fails where it is looked at."""

    def _fails(self, *_):
        raise AssertionError("looked at")

    __eq__ = __ne__ = __lt__ = __hash__ = __bool__ = __len__ = __iter__ = __str__ = __repr__ = __int__ = _fails


def refusals():
    for base, table in STRAIGHT.items():
        for name, fields in table.items():
            yield getattr(errors, base), getattr(errors, name), fields


class Errors(unittest.TestCase):
    def test_bases(self):
        self.assertEqual(errors.MetError.__bases__, (ValueError,))
        self.assertEqual(errors.LackError.__bases__, (LookupError,))

    def test_each_straight_under_its_base(self):
        for base, refusal, _ in refusals():
            self.assertEqual(refusal.__bases__, (base,))

    def test_no_other_errors(self):
        told = {name for name, thing in vars(errors).items() if isinstance(thing, type)}
        self.assertEqual(told, {"MetError", "LackError", *STRAIGHT["MetError"], *STRAIGHT["LackError"]})

    def test_fields_by_places_and_by_names(self):
        for _, refusal, fields in refusals():
            things = [Untouched() for _ in fields]
            for made in (refusal(*things), refusal(**dict(zip(fields, things)))):
                for field, thing in zip(fields, things):
                    self.assertIs(getattr(made, field), thing)
                self.assertEqual(sorted(vars(made)), sorted(fields))

    def test_made_of_just_these(self):
        for _, refusal, fields in refusals():
            things = [0] * len(fields)
            with self.assertRaises(TypeError):
                refusal(*things[1:])
            with self.assertRaises(TypeError):
                refusal(*things, 0)
            with self.assertRaises(TypeError):
                refusal(*things[1:], other=0)

    def test_raised_and_caught_by_the_base(self):
        for base, refusal, fields in refusals():
            things = [[k] for k in range(len(fields))]
            with self.assertRaises(base) as caught:
                raise refusal(*things)
            for field, thing in zip(fields, things):
                self.assertIs(getattr(caught.exception, field), thing)

    def test_most(self):
        self.assertEqual(bounds.MOST, 4096)
        self.assertIs(type(bounds.MOST), int)
