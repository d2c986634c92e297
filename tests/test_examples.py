"""The examples of DOC.md, as they stand there: tests/examples.txt has them, parted by empty lines."""

import pathlib
import unittest

from wirebox import errors

EXAMPLES = pathlib.Path(__file__).with_name("examples.txt").read_text(encoding="ascii").strip().split("\n\n")


def steps_of(example):
    """Pairs of a line of code and what stands below it, None for nothing."""
    found = []
    for line in example.split("\n"):
        if line.startswith(">>> "):
            found.append((line[4:], None))
        else:
            found[-1] = (found[-1][0], line)
    return found


def told_by(code, names):
    """What a line of code tells, written as in DOC.md."""
    try:
        return repr(eval(code, names))
    except (errors.WireError, errors.BoxError) as error:
        told = ", ".join(repr(value) for value in vars(error).values())
        return f"raises {error.__class__.__name__}({told})"


class ExamplesTest(unittest.TestCase):
    def test_examples(self):
        self.assertGreater(len(EXAMPLES), 1)
        for example in EXAMPLES:
            names = {}
            for code, told in steps_of(example):
                if told is None:
                    exec(code, names)
                else:
                    self.assertEqual(told_by(code, names), told, code)


if __name__ == "__main__":
    unittest.main()
