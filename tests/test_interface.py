"""Point 1 and the interface: names, modules, arguments, and the examples as the document has them."""

import importlib
import inspect
import unittest

from stagebelt.errors import BeltError

ARGUMENTS = {
    "words": {
        "word": ["number"], "added": ["one", "other"], "less_by": ["one", "other"],
        "times": ["one", "other"], "both_bits": ["one", "other"], "is_less": ["one", "other"],
    },
    "programs": {
        "is_instruction": ["value"], "kind_of": ["instruction"], "written_by": ["instruction"],
        "used_by": ["instruction"],
    },
    "plain": {
        "stepped": ["program", "state", "at"], "ran": ["program", "state", "most"],
        "ended": ["program", "state"],
    },
    "codes": {
        "code": ["instruction"], "coded": ["one", "other"], "image": ["program"], "program_of": ["words"],
    },
    "texts": {
        "written": ["program"], "write_design": ["design"], "assembled": ["text"], "read_design": ["text"],
    },
    "designs": {
        "is_design": ["value"], "is_entry": ["value"], "all_entries": [],
        "place_of": ["design", "kind", "what"], "last_place": ["design", "kind"],
        "effect_place": ["design", "kind"], "with_waits": ["design", "waits"], "with_paths": ["design", "paths"],
    },
    "belts": {
        "run": ["design", "program", "state", "guesser"],
        "broken": ["design", "program", "state", "guesser", "beat"],
        "delayed": ["design", "program", "state", "guesser", "delays"],
        "laid_on": ["design", "program", "state", "guesser"],
        "on_belt": ["design", "program", "state", "guesser", "beat"],
    },
    "rights": {
        "is_open": ["design", "entry"], "is_right": ["design"], "shows": ["design", "program", "state", "guesser"],
        "open_entries": ["design"], "missing": ["design"], "least_waits": ["design"], "spared_by": ["design", "path"],
        "paths_for": ["design", "entries"], "shown": ["design", "entry"], "first_shown": ["design"],
    },
    "beats": {
        "trace_of": ["design", "program", "state", "guesser"], "laid_beats": ["design", "trace"],
        "waited": ["design", "trace"], "beats_of": ["design", "trace"],
    },
    "speeds": {
        "has_holes": ["design"], "never_slower": ["one", "other"], "may_order": ["block", "order"],
        "filled": ["design"], "distance": ["design", "entry"], "rounds_beats": ["design", "body", "rounds"],
        "order_beats": ["design", "block", "order"], "slower_trace": ["one", "other"], "pace": ["design", "body"],
        "ring_pace": ["design", "body", "ring"], "pace_ring": ["design", "body"], "best_order": ["design", "block"],
    },
    "desks": {"Desk": ["design", "program", "state"]},
}

METHODS = {"forward": ["many"], "back": ["many"], "redesign": ["design"], "run": ["line"]}

EXAMPLES = {
    "words": """
>>> from stagebelt.words import added, both_bits, is_less, less_by, times, word
>>> [word(-1), added(65535, 2), less_by(1, 2), times(300, 300), both_bits(12, 10), is_less(1, 2)]
[65535, 1, 65535, 24464, 8, 1]
>>> added(-1, 0)
raises BadWord
""",
    "programs": """
>>> from stagebelt.programs import is_instruction, kind_of, used_by, written_by
>>> [is_instruction(("add", 1, 2, 3)), kind_of(("less", 0, 1, 2)), written_by(("load", 3, 0, 1)), written_by(("store", 3, 0, 1)), used_by(("store", 3, 0, 1)), used_by(("add", 1, 2, 2))]
[True, 'sum', 3, None, (('a', 0), ('b', 3)), (('a', 2), ('a', 2))]
""",
    "plain": """
>>> from stagebelt.plain import ended, ran, stepped
>>> state = ((0,) * 8, (0,) * 16, ())
>>> program = (("set", 1, 5), ("out", 1), ("zero", 0, 1))
>>> [ran(program, state, 3)[1:], stepped(program, state, 0)[0][0][:2], ended(program[:2], state)[1]]
[(1, 3), (0, 5), 2]
>>> ended(program, state)
raises TooLong(most=1000)
""",
    "codes": """
>>> from stagebelt.codes import code, coded, image, program_of
>>> [code(("add", 1, 2, 3)), coded(8856, 0), coded(1, 0), image((("go", 1),)), program_of((40960, 1))]
[(8856, 0), ('add', 1, 2, 3), None, (40960, 1), (('go', 1),)]
""",
    "texts": r"""
>>> from stagebelt.texts import assembled, read_design, write_design, written
>>> text = "read 1\nsame yes\nplaces 1.4 2.2.4 2.2.4 2.3.4 2.2.3 2.2 1 2.2\npaths 3>2\nwaits order:set:sum:1"
>>> [assembled("a:\nset r1 5\ngo a"), written((("store", 2, 0, 1),)), read_design(text)[3:], write_design(read_design(text)) == text]
[(('set', 1, 5), ('go', 0)), 'store r2 r0 1', (((3, 2),), (('order', 'set', 'sum', 1),)), True]
>>> assembled("go b")
raises InvalidText(line=1)
""",
    "designs": """
>>> from stagebelt.designs import all_entries, effect_place, is_design, is_entry, last_place, place_of, with_waits
>>> design = (1, True, ((1, 4), (2, 2, 4), (2, 2, 4), (2, 3, 4), (2, 2, 3), (2, 2), (1,), (2, 2)), ((3, 2), (4, 2)), ())
>>> [is_design(design), place_of(design, "load", "fetched"), effect_place(design, "store"), last_place(design, "go"), len(all_entries()), is_entry(("order", "set", "sum", 8))]
[True, 3, 3, 1, 406, False]
>>> with_waits(design, None)
raises BadWaits
""",
    "belts": """
>>> from stagebelt.belts import broken, delayed, laid_on, on_belt, run
>>> design = (1, True, ((1, 4), (2, 2, 4), (2, 2, 4), (2, 3, 4), (2, 2, 3), (2, 2), (1,), (2, 2)), ((3, 2), (4, 2)), ())
>>> program, state = (("load", 1, 0, 0), ("add", 2, 1, 1)), ((0,) * 8, (7,) * 16, ())
>>> [run(design, program, state, ("next",))[0][0][:3], run(design, program, state, ("next",))[1:], on_belt(design, program, state, ("next",), 2), laid_on(design, program, state, ("next",)), broken(design, program, state, ("next",), 1)[1:], delayed(design, program, state, ("next",), (5,))[2]]
[(0, 7, 0), (2, 6), ((2, 0), (1, 1)), ((0, 0, False), (1, 1, False)), (1, 1), 11]
>>> run(design, (("go", 0),), state, ("goal",))
raises TooLong(most=1000)
""",
    "rights": """
>>> from stagebelt.rights import is_open, is_right, least_waits, missing, paths_for, shown, spared_by
>>> design = (1, True, ((1, 4), (2, 2, 4), (2, 2, 4), (2, 3, 4), (2, 2, 3), (2, 2), (1,), (2, 2)), ((3, 2), (4, 2)), ())
>>> entry = ("value", "load", "sum", "a", 1)
>>> [is_open(design, entry), len(missing(design)), least_waits(design)[0], is_right(design), is_right(design[:4] + (least_waits(design),)), shown(design, entry)[0], spared_by(design, (5, 2)), paths_for(design[:3] + ((), ()), (("value", "sum", "sum", "a", 1),))]
[True, 7, ('value', 'load', 'load', 'a', 1), False, True, (('load', 0, 2, 1), ('add', 5, 0, 4)), (), ((3, 2),)]
>>> paths_for(design, (entry,))
raises NotMade
""",
    "beats": """
>>> from stagebelt.beats import beats_of, laid_beats, trace_of, waited
>>> design = (1, True, ((1, 4), (2, 2, 4), (2, 2, 4), (2, 3, 4), (2, 2, 3), (2, 2), (1,), (2, 2)), ((3, 2), (4, 2)), (("value", "load", "sum", "a", 1),))
>>> trace = ((("load", 1, 0, 0), True), (("add", 2, 1, 1), True))
>>> [laid_beats(design, trace), beats_of(design, trace), waited(design, trace)]
[(0, 2), 7, (0, 1)]
>>> beats_of(design, ((("idle",), False),))
raises BadTrace(index=0)
""",
    "speeds": """
>>> from stagebelt.rights import least_waits
>>> from stagebelt.speeds import best_order, distance, filled, has_holes, may_order, never_slower, pace, pace_ring, rounds_beats
>>> design = (1, True, ((1, 4), (2, 2, 4), (2, 2, 4), (2, 3, 4), (2, 2, 3), (2, 2), (1,), (2, 2)), ((3, 2), (4, 2)), ())
>>> design = design[:4] + (least_waits(design),)
>>> block = (("load", 1, 0, 0), ("add", 2, 1, 1), ("load", 3, 0, 1), ("add", 4, 3, 3))
>>> [distance(design, ("value", "load", "sum", "a", 1)), has_holes(design), never_slower(design, design), best_order(design, block), may_order(block, (1, 0, 2, 3)), pace(design, (("load", 1, 1, 0),)), pace_ring(design, (("load", 1, 1, 0),)), rounds_beats(design, (("load", 1, 1, 0),), 1000)]
[2, False, True, (0, 2, 1, 3), False, (2, 1), ((0, 1),), 2003]
>>> pace(design[:4] + ((),), block)
raises NotMade
""",
    "desks": """
>>> from stagebelt.desks import Desk
>>> design = (1, True, ((1, 4), (2, 2, 4), (2, 2, 4), (2, 3, 4), (2, 2, 3), (2, 2), (1,), (2, 2)), ((3, 2), (4, 2)), ())
>>> desk = Desk(design, (("set", 1, 5), ("out", 1)), ((0,) * 8, (7,) * 16, ()))
>>> [desk.run("forward 2"), desk.run("shown"), desk.run("next"), desk.back(1), desk.next, desk.run("missing"), desk.run("beats next")]
[None, '5', 'end', None, 1, '7', '5']
>>> desk.run("forward 01")
raises InvalidText(line=1)
""",
}


def outcome(line, names):
    """What a line gives, in the words of the document's examples, None for a statement."""
    try:
        return repr(eval(compile(line, "example", "eval"), names))
    except SyntaxError:
        exec(line, names)
        return None
    except BeltError as error:
        fields = ", ".join(f"{name}={value!r}" for name, value in sorted(vars(error).items()))
        return f"raises {type(error).__name__}" + (f"({fields})" if fields else "")


def outcomes(text):
    """Pairs of what is told and what comes, for each line with a result."""
    names, pairs, came = {}, [], None
    for line in text.strip().split("\n"):
        if line.startswith(">>> "):
            came = outcome(line[4:], names)
        else:
            pairs.append((line, came))
    return pairs


class InterfaceTest(unittest.TestCase):
    def test_defined_where_listed(self):
        for module, functions in ARGUMENTS.items():
            found = importlib.import_module("stagebelt." + module)
            for name, arguments in functions.items():
                with self.subTest(module, name=name):
                    function = getattr(found, name)
                    self.assertEqual(function.__module__, "stagebelt." + module)
                    self.assertEqual(list(inspect.signature(function).parameters), arguments)

    def test_methods_of_the_desk(self):
        desk = importlib.import_module("stagebelt.desks").Desk
        for name, arguments in METHODS.items():
            method = vars(desk)[name]
            self.assertEqual(list(inspect.signature(method).parameters), ["self"] + arguments)
        for name in ("state", "next", "done"):
            self.assertIsInstance(vars(desk)[name], property)

    def test_examples(self):
        for module, text in EXAMPLES.items():
            pairs = outcomes(text)
            self.assertTrue(pairs)
            for told, came in pairs:
                with self.subTest(module, told=told):
                    self.assertEqual(came, told)

    def test_all_lines_of_examples_are_tested(self):
        self.assertEqual([len(outcomes(text)) for text in EXAMPLES.values()], [2, 1, 2, 1, 2, 2, 2, 2, 2, 2, 2])
