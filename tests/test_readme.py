"""README.md: what its examples print is what stands behind them."""

import contextlib
import io
import pathlib
import re
import unittest

README = pathlib.Path(__file__).resolve().parent.parent / "README.md"


class Examples(unittest.TestCase):
    def test_they_print_what_is_said(self):
        names, printed, said = {}, [], []
        for block in re.findall(r"```python\n(.*?)```", README.read_text(), re.S):
            told = io.StringIO()
            with contextlib.redirect_stdout(told):
                exec(block, names)
            printed += told.getvalue().splitlines()
            said += re.findall(r"^ *print\(.*\)  # (.*)$", block, re.M)
        said = [text for text in said if ", then" not in text]
        self.assertGreater(len(said), 8)
        self.assertEqual([text for text in said if text not in printed], [])

    def test_all_modules_are_named(self):
        text = README.read_text()
        for file in sorted((README.parent / "drawerways").glob("*.py")):
            if file.stem != "__init__":
                self.assertIn(f"`{file.stem}`", text)


if __name__ == "__main__":
    unittest.main()
