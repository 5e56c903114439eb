import re
import unittest
from pathlib import Path

README = Path(__file__).resolve().parent.parent / "README.md"


class Readme(unittest.TestCase):
    def test_each_example_gives_what_stands_beside_it(self):
        names = {}
        tried = 0
        for block in re.findall(r"```python\n(.*?)```", README.read_text("utf-8"), re.S):
            for line in block.splitlines():
                code, _, beside = line.partition("  #")
                if re.match(r"from |\w+ = ", code):
                    exec(code, names)
                elif code.strip():
                    value = repr(eval(code.strip(), names)).replace("'", '"')
                    self.assertRegex(beside.strip(), "^" + re.escape(value) + "(:|$)", line)
                    tried += 1
        self.assertGreater(tried, 10)


if __name__ == "__main__":
    unittest.main()
