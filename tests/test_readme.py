import os
import unittest

README = os.path.join(os.path.dirname(os.path.abspath(__file__)), os.pardir, "README.md")


class Readme(unittest.TestCase):
    def test_what_it_shows_is_what_is_told(self):
        with open(README) as file:
            rows = [row[4:] for row in file.read().splitlines() if row.startswith("    ")]
        names = {}
        shown = 0
        for row in rows:
            if row.startswith((".ci", "PYTHONPATH")):
                continue
            code, _, value = row.partition("  # ")
            if value:
                shown += 1
                self.assertEqual(eval(code.strip(), names), eval(value, names), row)
            else:
                exec(code, names)
        self.assertTrue(shown >= 10)


if __name__ == "__main__":
    unittest.main()
