"""What README.md shows is what the program answers."""

import ast
import pathlib
import re
import unittest

README = pathlib.Path(__file__).resolve().parent.parent / "README.md"


def told_behind(remark):
    """The value that a remark begins with, as a list of it; empty where it begins with none."""
    for end in range(len(remark), 0, -1):
        begin = remark[:end].strip()
        try:
            # A comma behind a value would make a tuple of it.
            if not begin.endswith(","):
                return [ast.literal_eval(begin)]
        except (SyntaxError, ValueError):
            continue
    return []


class Readme(unittest.TestCase):
    def test_each_row(self):
        names = {}
        seen = 0
        for block in re.findall(r"```python\n(.*?)```", README.read_text(), re.S):
            for row in block.splitlines():
                code, mark, remark = row.partition("  # ")
                try:
                    tree = compile(code.strip(), "README.md", "eval")
                except SyntaxError:
                    exec(code.strip(), names)
                    continue
                answer = eval(tree, names)
                due = told_behind(remark.strip())
                if due:
                    seen += 1
                    self.assertEqual(answer, due[0], row)
        self.assertGreater(seen, 50)


if __name__ == "__main__":
    unittest.main()
