"""Each example of the document, in its order: lines with >>>, and behind them what they show or raise."""

import pathlib
import unittest

EXAMPLES = pathlib.Path(__file__).resolve().parent / "examples.txt"


def examples():
    """Pairs of a line of code and the lines behind it."""
    found = []
    for line in EXAMPLES.read_text(encoding="utf-8").splitlines():
        if line.startswith(">>> "):
            found.append((line[4:], []))
        else:
            found[-1][1].append(line)
    return [(code, "\n".join(shown)) for code, shown in found]


def shown_by(code, names):
    """What a line of code shows or raises."""
    try:
        try:
            worth = eval(code, names)
        except SyntaxError:
            return exec(code, names) or ""
    except Exception as error:
        fields = ", ".join(f"{word}={field!r}" for word, field in vars(error).items())
        return f"raises {error.__class__.__name__}({fields})"
    return "" if worth is None else repr(worth)


class Examples(unittest.TestCase):
    def test_each(self):
        names = {}
        for code, shown in examples():
            with self.subTest(code):
                self.assertEqual(shown_by(code, names), shown)
        self.assertGreater(len(examples()), 100)


if __name__ == "__main__":
    unittest.main()
