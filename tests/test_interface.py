"""The interface: its names are there, with their arguments."""

import importlib
import inspect
import unittest

FUNCTIONS = {
    "numerals": ["is_worth(thing)", "numeral(worth)", "worth_in(text)"],
    "terms": ["is_name(text)", "term_from(words, at)", "words_of(term)", "reckoned(term, slots)"],
    "tables": ["table_of(rows)", "stands(table, place)", "laid_on(table, gifts)"],
    "reader": ["read(text)"],
    "shower": ["shown(rows)"],
    "plain": ["alone(rows, table)", "one_by_one(dealings, table)"],
    "codes": ["code_of(rows)"],
    "runs": ["fed(code, table)"],
    "rounds": ["meet(one, other)", "rounds(papers)", "chain(papers)"],
    "orders": ["keeps(papers, order)", "in_order(codes, table, order)"],
    "lines": ["deal_line(rank, paper)", "mark_line(rank, table)", "line_read(text)"],
    "logs": ["come_up(text)", "cut_short(text)"],
    "house": ["new_log(table)"],
}
CLASSES = {
    "runs": {"Run(code)": ["asks()", "step(worth=0)", "over()", "paper()"]},
    "makes": {"Makes(table)": ["seen(place, rank)", "lay(rank, gifts)", "table_for(rank)", "fold(rank)", "kept()"]},
    "ways": {"Way()": ["chosen(ranks)"], "Highest()": ["chosen(ranks)"], "Turning()": ["chosen(ranks)"]},
    "desk": {
        "Desk(table, hands, way, first=0)": [
            "add(code)", "move(hand)", "finish()", "settled()", "papers()", "table()", "fold()", "kept()",
        ],
    },
    "house": {
        "House(log, hands, way)": [
            "hand_in(text)", "move(hand)", "finish()", "settled()", "table()", "kept()", "mark()", "log()", "answers()",
        ],
    },
}


def split(written):
    """A name, and what stands behind it."""
    name, bracket, rest = written.partition("(")
    return (name, bracket + rest)


class Interface(unittest.TestCase):
    def found(self, module, name):
        return getattr(importlib.import_module(f"forerun.{module}"), name)

    def test_functions(self):
        for module, functions in FUNCTIONS.items():
            for name, arguments in map(split, functions):
                self.assertEqual(str(inspect.signature(self.found(module, name))), arguments, f"{module}.{name}")

    def test_classes_and_methods(self):
        for module, classes in CLASSES.items():
            for written, methods in classes.items():
                name, arguments = split(written)
                kind = self.found(module, name)
                self.assertEqual(str(inspect.signature(kind)), arguments, f"{module}.{name}")
                for method, rest in map(split, methods):
                    expected = rest.replace("(", "(self, ").replace(", )", ")")
                    self.assertEqual(str(inspect.signature(getattr(kind, method))), expected, f"{name}.{method}")

    def test_ways_stand_under_the_plain_one(self):
        for name in ("Highest", "Turning"):
            self.assertTrue(issubclass(self.found("ways", name), self.found("ways", "Way")))


if __name__ == "__main__":
    unittest.main()
