"""The code in README.md runs."""

import contextlib
import io
import re
import unittest
from pathlib import Path

README = Path(__file__).resolve().parent.parent / "README.md"


class Readme(unittest.TestCase):
    def test_code_runs(self):
        blocks = re.findall(r"```python\n(.*?)```", README.read_text(encoding="utf-8"), re.DOTALL)
        self.assertGreater(len(blocks), 10)
        for block in blocks:
            with contextlib.redirect_stdout(io.StringIO()) as printed:
                exec(block, {})
            # What a comment behind the first print of a block tells is what it prints, on one line or as its beginning.
            told = re.search(r"^print\(.*?\) +# (.*)$", block, re.MULTILINE).group(1)
            shown = printed.getvalue().split("\n")[0]
            self.assertTrue(told.startswith(shown), f"{told}: {shown}")


if __name__ == "__main__":
    unittest.main()
