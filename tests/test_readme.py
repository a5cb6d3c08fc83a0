"""The examples of README.md answer what stands behind them."""

import ast
import pathlib
import re
import unittest

README = pathlib.Path(__file__).resolve().parent.parent / "README.md"


class Readme(unittest.TestCase):
    def test_examples(self):
        code = "\n".join(re.findall(r"```python\n(.*?)```", README.read_text(), re.S))
        names = {}
        asked = 0
        for line in code.splitlines():
            call, mark, told = line.partition("#")
            if mark:
                wanted = told.strip() if told.strip().startswith("'") else told.split(":")[0].strip()
                self.assertEqual(eval(call.strip(), names), ast.literal_eval(wanted), line)
                asked += 1
            else:
                exec(line, names)
        self.assertGreater(asked, 0)


if __name__ == "__main__":
    unittest.main()
