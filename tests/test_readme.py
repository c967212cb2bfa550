"""What README.md says of the program is so."""

import pathlib
import re
import unittest

README = pathlib.Path(__file__).resolve().parent.parent / "README.md"


class Examples(unittest.TestCase):

    def test_each_told_value_is_so(self):
        compared = 0
        for block in re.findall(r"```python\n(.*?)```", README.read_text("utf-8"), re.DOTALL):
            names = {}
            for row in block.splitlines():
                said, mark, wanted = row.partition("  # ")
                if mark:
                    self.assertEqual(eval(said.strip(), names), eval(wanted, names), row)
                    compared += 1
                else:
                    exec(row, names)
        self.assertGreater(compared, 30)
