"""The examples of the document, word for word."""

import unittest
from pathlib import Path

FOLDER = Path(__file__).parent / "examples"
# In the document's order: later ones use names of earlier ones.
MODULES = (
    ("forms", 8), ("led", 4), ("closed", 2), ("spans", 7), ("measures", 9), ("elements", 4), ("meetings", 3), ("measured", 4),
    ("chains", 8), ("joined", 7), ("potentials", 4), ("certificates", 4),
)


def examples(name):
    """Pairs of what is written behind >>> and what shall come of it."""
    found = []
    for line in (FOLDER / f"{name}.txt").read_text().splitlines():
        if line.startswith(">>> "):
            found.append((line[4:], []))
        else:
            found[-1][1].append(line)
    return [(source, "\n".join(lines)) for source, lines in found]


def outcome(source, names):
    """What comes of a line, as the document writes it."""
    try:
        code = compile(source, "example", "eval")
    except SyntaxError:
        exec(source, names)
        return ""
    try:
        return repr(eval(code, names))
    except Exception as wrong:
        kept = ", ".join(f"{name}={worth!r}" for name, worth in vars(wrong).items())
        return f"raises {type(wrong).__name__}({kept})"


class Examples(unittest.TestCase):
    def test_no_file_is_left_out(self):
        self.assertEqual(sorted(path.stem for path in FOLDER.iterdir()), sorted(name for name, _ in MODULES))

    def test_all(self):
        names = {}
        for name, many in MODULES:
            lines = examples(name)
            self.assertEqual(len(lines), many)
            for source, expected in lines:
                with self.subTest(module=name, source=source):
                    self.assertEqual(outcome(source, names), expected)


if __name__ == "__main__":
    unittest.main()
