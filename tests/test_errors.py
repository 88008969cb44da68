import unittest

from tautropes import errors

ASKED = ("asked",)
TABLE = [
    (ValueError, {
        "NoRoom": ASKED, "NoDoor": ASKED, "NoFolk": ASKED, "NoRope": ASKED, "NoPost": ASKED,
        "NoStanding": ASKED, "NoNames": ASKED, "NoFold": ASKED, "Three": ("three",),
        "Apart": (), "NotClosed": (), "Nothing": (), "Alike": ("like",), "NoText": ("row",),
    }),
    (RuntimeError, {"NotGone": ("number", "why"), "NotNear": ("one", "other")}),
    (LookupError, {
        "NotHeld": ASKED, "NoLead": ("names",), "NotLed": ("paper",), "NoLift": ("walk",), "NoMore": ("word",),
    }),
    (IndexError, {"NoMoment": ASKED, "NoNumber": ASKED}),
    (ArithmeticError, {"TooMany": ("most",)}),
]
ROWS = [(name, base, fields) for base, table in TABLE for name, fields in table.items()]


class Errors(unittest.TestCase):
    def test_each_stands_straight_under_its_base(self):
        for name, base, _ in ROWS:
            self.assertEqual(getattr(errors, name).__bases__, (base,), name)

    def test_each_is_defined_there(self):
        for name, _, _ in ROWS:
            self.assertEqual(getattr(errors, name).__module__, "tautropes.errors", name)

    def test_fields_by_place(self):
        for name, _, fields in ROWS:
            told = [[field] for field in fields]
            refusal = getattr(errors, name)(*told)
            for field, thing in zip(fields, told):
                self.assertIs(getattr(refusal, field), thing, name)

    def test_fields_by_name(self):
        for name, _, fields in ROWS:
            refusal = getattr(errors, name)(**{field: field.upper() for field in fields})
            self.assertEqual([getattr(refusal, field) for field in fields], [field.upper() for field in fields])

    def test_no_more_and_no_fewer_fields_where_there_are_some(self):
        for name, _, fields in ROWS:
            if fields:
                with self.assertRaises(TypeError):
                    getattr(errors, name)(*fields[1:])
                with self.assertRaises(TypeError):
                    getattr(errors, name)(*fields, 1)

    def test_there_are_no_others(self):
        listed = {name for name, _, _ in ROWS}
        self.assertEqual({name for name in vars(errors) if not name.startswith("_")}, listed)


if __name__ == "__main__":
    unittest.main()
