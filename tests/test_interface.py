"""Point 1 and the interface: names, modules, arguments, and the examples as the document has them."""

import importlib
import inspect
import unittest

from stagebelt.errors import BeltError

ARGUMENTS = {
    "words": {
        "word": ["number"], "added": ["one", "other"], "less_by": ["one", "other"],
        "times": ["one", "other"], "both_bits": ["one", "other"], "is_less": ["one", "other"],
    },
    "programs": {
        "is_instruction": ["value"], "kind_of": ["instruction"], "written_by": ["instruction"],
        "used_by": ["instruction"],
    },
    "plain": {
        "stepped": ["program", "state", "at"], "ran": ["program", "state", "most"],
        "ended": ["program", "state"],
    },
}

EXAMPLES = {
    "words": """
>>> from stagebelt.words import added, both_bits, is_less, less_by, times, word
>>> [word(-1), added(65535, 2), less_by(1, 2), times(300, 300), both_bits(12, 10), is_less(1, 2)]
[65535, 1, 65535, 24464, 8, 1]
>>> added(-1, 0)
raises BadWord
""",
    "programs": """
>>> from stagebelt.programs import is_instruction, kind_of, used_by, written_by
>>> [is_instruction(("add", 1, 2, 3)), kind_of(("less", 0, 1, 2)), written_by(("load", 3, 0, 1)), written_by(("store", 3, 0, 1)), used_by(("store", 3, 0, 1)), used_by(("add", 1, 2, 2))]
[True, 'sum', 3, None, (('a', 0), ('b', 3)), (('a', 2), ('a', 2))]
""",
    "plain": """
>>> from stagebelt.plain import ended, ran, stepped
>>> state = ((0,) * 8, (0,) * 16, ())
>>> program = (("set", 1, 5), ("out", 1), ("zero", 0, 1))
>>> [ran(program, state, 3)[1:], stepped(program, state, 0)[0][0][:2], ended(program[:2], state)[1]]
[(1, 3), (0, 5), 2]
>>> ended(program, state)
raises TooLong(most=1000)
""",
}


def outcome(line, names):
    """What a line gives, in the words of the document's examples, None for a statement."""
    try:
        return repr(eval(compile(line, "example", "eval"), names))
    except SyntaxError:
        exec(line, names)
        return None
    except BeltError as error:
        fields = ", ".join(f"{name}={value!r}" for name, value in sorted(vars(error).items()))
        return f"raises {type(error).__name__}" + (f"({fields})" if fields else "")


def outcomes(text):
    """Pairs of what is told and what comes, for each line with a result."""
    names, pairs, came = {}, [], None
    for line in text.strip().split("\n"):
        if line.startswith(">>> "):
            came = outcome(line[4:], names)
        else:
            pairs.append((line, came))
    return pairs


class InterfaceTest(unittest.TestCase):
    def test_defined_where_listed(self):
        for module, functions in ARGUMENTS.items():
            found = importlib.import_module("stagebelt." + module)
            for name, arguments in functions.items():
                with self.subTest(module, name=name):
                    function = getattr(found, name)
                    self.assertEqual(function.__module__, "stagebelt." + module)
                    self.assertEqual(list(inspect.signature(function).parameters), arguments)

    def test_examples(self):
        for module, text in EXAMPLES.items():
            pairs = outcomes(text)
            self.assertTrue(pairs)
            for told, came in pairs:
                with self.subTest(module, told=told):
                    self.assertEqual(came, told)

    def test_all_lines_of_examples_are_tested(self):
        self.assertEqual([len(outcomes(text)) for text in EXAMPLES.values()], [2, 1, 2])
