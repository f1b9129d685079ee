"""What README.md shows holds."""

import pathlib
import re
import unittest

README = pathlib.Path(__file__).resolve().parent.parent / "README.md"


class Readme(unittest.TestCase):
    def test_its_examples(self):
        examples = re.findall(r"```python\n(.*?)```", README.read_text(encoding="utf-8"), re.DOTALL)
        self.assertGreater(len(examples), 4)
        exec("\n".join(examples), {})

    def test_each_file_it_tells_of_is_there(self):
        text = README.read_text(encoding="utf-8")
        for row in re.findall(r"^\| (`.*?) \|", text, re.MULTILINE):
            for name in re.findall(r"`(\w+)`", row):
                self.assertTrue((README.parent / "letterfolk" / f"{name}.py").is_file(), name)


if __name__ == "__main__":
    unittest.main()
