"""The interface: names, arguments, where each is defined, and which module imports from which."""

import ast
import pathlib
import unittest

FOLDER = pathlib.Path(__file__).resolve().parent.parent / "handlocks"

# The modules of the interface in its order, with what each defines: for a class None, its methods follow below.
MODULES = {
    "errors": {
        "LockError": None, "BadWeb": None, "NoParty": None, "NoHanding": None, "BadLeaders": None, "BadKeepers": None,
        "BadLaying": None, "BadDeal": None, "BadNumber": None, "BadCourse": None, "BadRule": None, "NotNow": None,
        "NothingDone": None, "BadJournal": None, "BadText": None,
    },
    "webs": {
        "Web": None, "ways": ["web", "start", "end"], "nearest": ["web", "start", "end"],
        "farthest": ["web", "start", "end"], "rings": ["web"], "is_tied": ["web"], "closed_lots": ["web"],
    },
    "laying": {
        "is_laying": ["web", "leaders", "keepers", "thing"], "laid_by": ["web", "laying"], "order": ["web", "leaders"],
        "is_order": ["web", "leaders", "thing"],
    },
    "leaders": {"least_leaders": ["web"], "fewest_leaders": ["web"], "apart": ["web"]},
    "deals": {"Deal": None, "trails": ["deal", "handing", "leader"], "open_until": ["deal", "handing"]},
    "courses": {
        "is_course": ["deal", "keepers", "thing"], "taken": ["deal", "course"], "losers": ["deal", "course"],
        "must_show": ["deal", "course", "party"],
    },
    "losing": {
        "slips": ["deal", "party"], "slack": ["deal", "party"], "can_lose": ["deal", "party"],
        "losing_course": ["deal", "party"], "in_danger": ["deal"], "is_sound": ["deal"], "mended": ["deal", "party"],
    },
    "keeping": {
        "kept_course": ["deal"], "goes_through": ["deal"], "taken_at": ["deal"], "last_tick": ["deal"],
        "stopped_course": ["deal", "party", "tick"], "harmed": ["deal", "party"],
    },
    "tables": {
        "least_last": ["web", "leaders", "wait"], "plain_last": ["web", "leaders", "wait"], "plain_leaders": ["web"],
    },
    "rules": {
        "TrailRule": None, "WayRule": None, "least_losing": ["rule", "wait"], "losing_web": ["rule", "wait"],
        "least_stuck": ["rule", "wait"], "most_wait": ["rule"],
    },
    "back": {
        "keepers_in": ["deal", "course"], "first_fault": ["deal", "course", "party"], "heard": ["deal", "course", "leader"],
        "trusted": ["deal", "course"],
    },
    "live": {"Board": None},
    "journals": {"journal_of": ["board"], "first_wrong": ["deal", "journal"], "replayed": ["deal", "journal"]},
    "texts": {
        "deal_text": ["deal"], "read_deal": ["text"], "shows_text": ["deal", "shows"], "read_shows": ["deal", "text"],
    },
    "desk": {"Desk": None},
    "late": {
        "is_late_course": ["deal", "keepers", "late", "thing"], "can_lose_late": ["deal", "party", "late"],
        "late_losing_course": ["deal", "party", "late"], "bears": ["deal", "party"],
    },
}
METHODS = {
    "Web": {
        "__init__": ["self", "parties", "handings"], "parties": ["self"], "handings": ["self"], "ins": ["self", "party"],
        "outs": ["self", "party"], "with_handing": ["self", "handing"], "without": ["self", "handing"], "turned": ["self"],
    },
    "Deal": {
        "__init__": ["self", "web", "leaders", "last", "wait"], "web": ["self"], "leaders": ["self"], "last": ["self"],
        "wait": ["self"], "with_last": ["self", "handing", "length", "tick"], "with_wait": ["self", "wait"],
        "with_leaders": ["self", "leaders"], "__eq__": ["self", "other"],
    },
    "TrailRule": {
        "__init__": ["self", "listed", "growth"], "listed": ["self"], "growth": ["self"], "until": ["self", "length"],
        "deal_for": ["self", "web", "leaders", "wait"], "__eq__": ["self", "other"],
    },
    "WayRule": {
        "__init__": ["self", "constant", "per_near", "per_far", "per_party"], "constant": ["self"], "per_near": ["self"],
        "per_far": ["self"], "per_party": ["self"], "deal_for": ["self", "web", "leader", "wait"],
        "__eq__": ["self", "other"],
    },
    "Board": {
        "__init__": ["self", "deal"], "deal": ["self"], "tick": ["self"], "course": ["self"], "log": ["self"],
        "taken": ["self"], "lay": ["self", "party"], "start": ["self"], "show": ["self", "handing", "trail"],
        "pass_tick": ["self"], "undo": ["self"], "must": ["self", "party"], "faults": ["self"], "tried": ["self", "work"],
        "copy": ["self"], "__enter__": ["self"], "__exit__": ["self", "kind", "value", "trace"], "__eq__": ["self", "other"],
    },
    "Desk": {"__init__": ["self", "text"], "reply": ["self", "line"]},
}
LISTED = list(MODULES)


def tree_of(name):
    return ast.parse((FOLDER / (name + ".py")).read_text(encoding="ascii"))


def arguments_of(function):
    return [argument.arg for argument in function.args.args]


class TestInterface(unittest.TestCase):
    def test_names_and_arguments(self):
        for module, names in MODULES.items():
            defined = {part.name: part for part in tree_of(module).body
                       if isinstance(part, (ast.FunctionDef, ast.ClassDef))}
            for name, arguments in names.items():
                self.assertIn(name, defined)
                if arguments is None:
                    self.assertIsInstance(defined[name], ast.ClassDef)
                else:
                    self.assertEqual(arguments_of(defined[name]), arguments)

    def test_methods_stand_in_their_class(self):
        classes = [part for module in MODULES for part in tree_of(module).body if isinstance(part, ast.ClassDef)]
        self.assertTrue(set(METHODS) <= {part.name for part in classes})
        for part in classes:
            found = {inner.name: arguments_of(inner) for inner in part.body if isinstance(inner, ast.FunctionDef)}
            for name, arguments in METHODS.get(part.name, {}).items():
                self.assertEqual(found.get(name), arguments, name)

    def test_init_defines_nothing(self):
        body = tree_of("__init__").body
        self.assertTrue(all(isinstance(part, ast.Expr) and isinstance(part.value, ast.Constant) for part in body))

    def test_listed_modules_import_only_from_those_before(self):
        for path in FOLDER.glob("*.py"):
            name = path.stem
            for part in ast.walk(tree_of(name)):
                self.assertNotIsInstance(part, ast.Import)
                if isinstance(part, ast.ImportFrom):
                    package, _, source = part.module.partition(".")
                    self.assertEqual((package, part.level), ("handlocks", 0))
                    if source in LISTED and name in LISTED:
                        self.assertLess(LISTED.index(source), LISTED.index(name))

    def test_further_modules_import_nothing_listed(self):
        for path in FOLDER.glob("*.py"):
            if path.stem not in LISTED:
                parts = [part for part in ast.walk(tree_of(path.stem)) if isinstance(part, ast.ImportFrom)]
                self.assertEqual(parts, [], path.stem)

    def test_the_folder_holds_python_files_only(self):
        for path in FOLDER.iterdir():
            self.assertTrue(path.suffix == ".py" or path.name == "__pycache__", path)

    def test_sizes_and_signs(self):
        for path in FOLDER.glob("*.py"):
            text = path.read_text(encoding="utf-8")
            lines = text.split("\n")
            self.assertLess(len(lines), 400)
            self.assertLessEqual(max(len(line) for line in lines), 120)
            self.assertTrue(all(sign == "\n" or " " <= sign <= "~" for sign in text))
            for part in ast.walk(ast.parse(text)):
                if isinstance(part, ast.FunctionDef):
                    self.assertLessEqual(part.end_lineno - part.lineno + 1, 40)


if __name__ == "__main__":
    unittest.main()
