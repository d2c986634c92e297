"""The examples of DOC.md, as they stand there: tests/examples.txt has them, parted by empty lines. And those of README.md."""

import pathlib
import unittest

from wirebox import errors

FOLDER = pathlib.Path(__file__).parent
EXAMPLES = (FOLDER / "examples.txt").read_text(encoding="ascii").strip().split("\n\n")
README = [line[4:] for line in (FOLDER.parent / "README.md").read_text(encoding="ascii").split("\n") if line.startswith("    ")]


def steps_of(example):
    """Pairs of a line of code and what stands below it, None for nothing."""
    found = []
    for line in example.split("\n"):
        if line.startswith(">>> "):
            found.append((line[4:], None))
        else:
            found[-1] = (found[-1][0], line)
    return found


def told_by(code, names):
    """What a line of code tells, written as in DOC.md."""
    try:
        return repr(eval(code, names))
    except (errors.WireError, errors.BoxError) as error:
        told = ", ".join(repr(value) for value in vars(error).values())
        return f"raises {error.__class__.__name__}({told})"


class ExamplesTest(unittest.TestCase):
    def follow(self, example):
        names = {}
        for code, told in steps_of(example):
            if told is None:
                exec(code, names)
            else:
                self.assertEqual(told_by(code, names), told, code)

    def test_examples(self):
        self.assertGreater(len(EXAMPLES), 1)
        for example in EXAMPLES:
            self.follow(example)

    def test_readme(self):
        shown = README[:README.index("bash .ci/run")]
        self.assertGreater(len(shown), 20)
        self.follow("\n".join(shown))


if __name__ == "__main__":
    unittest.main()
