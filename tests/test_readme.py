"""The examples of README.md show what stands there."""

import pathlib
import re
import unittest

from tests.common import Case


class Readme(Case):
    def test_word_for_word(self):
        text = (pathlib.Path(__file__).resolve().parent.parent / "README.md").read_text("ascii")
        blocks = re.findall(r"```python\n(.*?)```", text, re.DOTALL)
        self.assertGreater(len(blocks), 4)
        told = "\n".join(blocks)
        self.word_for_word(told, len(re.findall(r"^>>> ", told, re.MULTILINE)), "README.md")


if __name__ == "__main__":
    unittest.main()
