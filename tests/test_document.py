"""The document's own examples, as examples.md has them, are true."""

import pathlib
import unittest

from entryhall import errors

EXAMPLES = pathlib.Path(__file__).resolve().parent / "examples.md"


def blocks():
    """Each block as a list of pairs: a call, and the lines that show its result."""
    found = []
    for block in EXAMPLES.read_text(encoding="ascii").split("```\n")[1::2]:
        calls = []
        for line in block.splitlines():
            if line.startswith(">>> "):
                calls.append((line[4:], []))
            else:
                calls[-1][1].append(line)
        found.append(calls)
    return found


def answer(call, names):
    """What a call shows: nothing, its value, or the error that it raises with its argument."""
    try:
        kind = "exec" if call.startswith("from ") or " = " in call else "eval"
        return eval(compile(call, "example", kind), names)
    except (errors.TableError, errors.Absent, errors.Fault) as error:
        (told,) = vars(error).values()
        return type(error).__name__, told


class Examples(unittest.TestCase):
    def test_each_block(self):
        many = 0
        for calls in blocks():
            names = {}
            for call, lines in calls:
                many += len(lines)
                self.check(answer(call, names), lines, call)
        self.assertEqual(many, 25)

    def check(self, told, lines, call):
        if not lines:
            self.assertIsNone(told, call)
        elif lines[0].startswith("raises "):
            name, _, given = lines[0][7:].partition("(")
            self.assertEqual(told[0], name, call)
            if given:
                self.assertEqual(repr(told[1]), repr(eval(given[:-1])), call)
        else:
            self.assertEqual(repr(told), "".join(lines), call)


if __name__ == "__main__":
    unittest.main()
