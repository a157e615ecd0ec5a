"""What README.md shows is so."""

import ast
import re
import unittest
from pathlib import Path

TEXT = (Path(__file__).resolve().parent.parent / "README.md").read_text()


class Readme(unittest.TestCase):
    def test_each_row_is_worth_what_stands_beside_it(self):
        blocks = re.findall(r"```python\n(.*?)```", TEXT, re.S)
        self.assertEqual(len(blocks), 2)
        looked_at = 0
        for block in blocks:
            names = {}
            exec(block, names)
            for row in block.split("\n"):
                code, _, beside = row.partition("  # ")
                if not beside or row.startswith(" "):
                    continue
                worth = self.literal(beside)
                looked_at += 1
                self.assertEqual(self.run_again(block, row, code), worth, row)
        self.assertGreater(looked_at, 15)

    @staticmethod
    def literal(beside):
        """The longest beginning of a remark that is a worth by itself."""
        for end in range(len(beside), 0, -1):
            # A comma behind it would make a tuple of it.
            if beside[:end].rstrip().endswith(","):
                continue
            try:
                return ast.literal_eval(beside[:end].strip())
            except (SyntaxError, ValueError):
                continue
        raise AssertionError(beside)

    @staticmethod
    def run_again(block, row, code):
        """What a row is worth behind all rows ahead of it."""
        names = {}
        exec(block[:block.index(row)], names)
        return eval(code, names)


if __name__ == "__main__":
    unittest.main()
