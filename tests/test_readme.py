"""The examples of README.md run as they stand."""

import pathlib
import re
import unittest


class ReadmeTest(unittest.TestCase):
    def test_examples(self):
        text = (pathlib.Path(__file__).resolve().parent.parent / "README.md").read_text()
        examples = re.findall(r"```python\n(.*?)```", text, re.S)
        self.assertGreater(len(examples), 3)
        exec(compile("\n".join(examples), "README.md", "exec"), {})


if __name__ == "__main__":
    unittest.main()
