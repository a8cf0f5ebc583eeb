"""The interface: each name stands in its own file, with its parameters."""

import ast
import importlib
import inspect
import unittest

from tests.test_language import tree

INTERFACE = {
    "weights": "is_weight(value) weight(top, bottom=1) plus(one, other) times(one, other) less(one, other) is_below(one, other) summed(weights)",
    "kinds": "is_kind(value) arguments(kind) answer(kind) kind_from(arguments, answer) order(kind)",
    "terms": "is_name(value) is_expression(value) kind_of(expression, names=()) is_program(value) free_names(expression) paths(expression)"
             " part_at(expression, path) with_part(expression, path, part) renamed(expression, path, name) same_but_names(one, other)",
    "tables": "is_table(kind, value) size(kind, table) weight_at(kind, table, number, point) chances(table) number_table(number, k)"
              " never_table(kind) own_table(kind) by_things(kind, table)",
    "putting": "handed(kind, table, argument) mixed(kind, weights, tables)",
    "meaning": "table(program)",
    "alike": "is_surrounding(kind, value) put_in(kind, surrounding, program) chances_in(kind, surrounding, table) alike(one, other)"
             " first_unlike(one, other) exchanged(program, path, part) lines(program) alike_parts(program)",
    "coding": "compiled(program) source_of(code)",
    "manners": "run_by(program, manner) work_by(program, manner) value_form(program)",
    "asking": "asked(program, manner) folded(kind, table) spread(kind, table)",
    "agreeing": "agree(program, one, other, sure=False) parting(program, one, other, sure=False) alike_by(one, other, manner)",
    "weighing": "chances_of(program) chances_with(program, things)",
    "apart": "told_surrounding(kind, deep, many, seed) parted(one, other)",
    "texts": "text(expression, names=()) read(text, names=(), kind=None) completed(text, names=(), kind=None) offers(text, names=(), kind=None)"
             " table_text(kind, table) read_table(kind, text)",
    "booktexts": "book_text(book) begun(text) read_book(text)",
    "coins": "is_form(many, value) forms(program) value(form, coins) slope(form, place) alike_for_coins(one, other) parting_coins(one, other)",
    "roots": "roots(form, bottom) meeting(one, other, number, bottom)",
    "flips": "shares(form, many) least_flips(form, most) maker(form, many) can_be_made(form) why_not(form)",
    "lots": "masses(kind, table) first_short(kind, table) made(kind, table)",
    "runs": "branches(program) run(program) how_often(program, path) means(program)",
    "talks": "is_talk(kind, value) talk_of(program) told_by(kind, talk) program_of(kind, talk)",
    "meeting": "met(kind, talk, talks) asks(kind, talk, talks)",
    "passing": "passes(program) passed(program, word, path) last_form(program) are_last(program, value)",
    "questions": "opened(program, paths) drawn(program, paths) drawn_if(program, paths, number) means(program, paths, number)"
                 " believed(program, numbers)",
    "sure": "sure_table(program) is_sure(program) sure_alike(one, other) told_sure(kind, deep, many, seed) sure_parted(one, other)",
    "tapes": "grid(program) led(program, many, tape) shares(program, many, length)",
    "tries": "at_least(chance, tries, bar) least_tries(one, other, wish) enough_tries(one, other, wish)"
             " counting(kind, surrounding, number, tries, bar) counted(chances, number, tries, bar)",
}
CLASSES = {
    ("books", "Book"): "__init__() define(name, expression) change(name, expression) rename(old, new) drop(name) names() kind(name)"
                       " expression(name) table(name) uses(name) users(name) whole(name) listens(name, other) lots() shared() copy()",
    ("desk", "Desk"): "__init__(text='') say(line)",
    ("tapes", "TapeRun"): "__init__(program, many, tape) ahead() step() end() waiting()",
}


def told(text):
    """Pairs of a name and the text of its parameters."""
    found = []
    for part in text.split(") "):
        word, parameters = part.rstrip(")").split("(", 1)
        # A default of () has lost its bracket.
        if parameters.endswith("=("):
            parameters += ")"
        found.append((word.strip(), parameters))
    return found


def parameters_of(function, is_method=False):
    parts = [str(part) for part in inspect.signature(function).parameters.values()]
    return ", ".join(parts[1:] if is_method else parts)


class Interface(unittest.TestCase):
    def test_functions(self):
        for module, text in INTERFACE.items():
            loaded = importlib.import_module("chancepoints." + module)
            defined = [node.name for node in tree(module + ".py").body if isinstance(node, ast.FunctionDef)]
            for word, parameters in told(text):
                self.assertIn(word, defined, module)
                self.assertEqual(parameters, parameters_of(getattr(loaded, word)), (module, word))
                self.assertEqual("chancepoints." + module, getattr(loaded, word).__module__)

    def test_classes(self):
        for (module, word), text in CLASSES.items():
            made = getattr(importlib.import_module("chancepoints." + module), word)
            self.assertEqual("chancepoints." + module, made.__module__)
            for method, parameters in told(text):
                self.assertIn(method, vars(made))
                self.assertEqual(parameters, parameters_of(vars(made)[method], True), (word, method))

    def test_all_modules_are_told(self):
        self.assertEqual(29, len({*INTERFACE, "books", "desk"}))


if __name__ == "__main__":
    unittest.main()
