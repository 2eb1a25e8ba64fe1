"""What README.md shows is what the program tells."""
import ast
import pathlib
import re
import unittest

from hourstairs import errors

README = pathlib.Path(__file__).resolve().parent.parent / "README.md"


def shown():
    """The lines of the examples, each with the comment behind it, or in the line behind it."""
    text = "\n".join(re.findall(r"```python\n(.*?)```", README.read_text(encoding="utf-8"), re.DOTALL))
    for line in re.sub(r"\n +# ", "  # ", text).split("\n"):
        code, mark, comment = line.partition("  # ")
        if code.strip():
            yield code.strip(), comment.strip()


class Readme(unittest.TestCase):
    def test_examples(self):
        names, tried = {}, 0
        for code, comment in shown():
            tried += comment != ""
            if comment.startswith("refused with "):
                self.assert_refused(code, comment, names)
            elif comment == "":
                exec(code, names)
            else:
                self.assert_told(code, comment, names)
        self.assertGreater(tried, 40)

    def assert_refused(self, code, comment, names):
        kind = getattr(errors, re.match(r"refused with (\w+)", comment).group(1))
        with self.assertRaises(kind, msg=code) as caught:
            eval(code, names)
        for name, value in re.findall(r"\b(name|first|second) (\"\w+\"|\([^)]*\))", comment):
            self.assertEqual(getattr(caught.exception, name), ast.literal_eval(value), code)

    def assert_told(self, code, comment, names):
        target, equals, right = code.partition(" = ")
        if equals:
            exec(code, names)
        told = names[target] if equals else eval(code, names)
        self.assertEqual(told, self.first_value(comment), code)

    def first_value(self, comment):
        """The value that a comment begins with, whatever it says behind a colon."""
        for at in [len(comment)] + [match.start() for match in re.finditer(":", comment)]:
            try:
                return ast.literal_eval(comment[:at])
            except (SyntaxError, ValueError):
                continue
        self.fail(comment)


if __name__ == "__main__":
    unittest.main()
