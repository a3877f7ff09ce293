"""The language of the package's files, and that the interface is defined where it must be."""

import ast
import builtins
import importlib
import inspect
import os
import unittest

FOLDER = os.path.join(os.path.dirname(os.path.dirname(os.path.abspath(__file__))), "leastfile")

INTERFACE = {
    "errors.py": ["PackError", "BadFormat", "NoCommand", "BadWay", "NoBits", "BadBits", "TooFew", "Left", "NoUndo",
                  "BadText", "BadNumber", "BadPlaces", "BadRule", "BadView", "TooMany", "OtherLetters", "BadTexts",
                  "BadLine", "NoLine", "NoName", "BadSight", "NoMove", "BadFlag", "BadCopies"],
    "formats.py": ["Format", "Format.price", "Format.commands", "Format.__eq__", "coded", "room"],
    "files.py": ["spread", "written", "read", "text_of"],
    "readers.py": ["Reader", "Reader.push", "Reader.text", "Reader.way", "Reader.is_whole", "Reader.may",
                   "Reader.lack", "Reader.undo"],
    "copying.py": ["copies"],
    "shortest.py": ["costs", "least", "shortest", "how_many", "shortest_at", "check_heights"],
    "bounded.py": ["least_of", "least_through", "needs"],
    "rules.py": ["Rule", "Rule.sight", "Rule.__eq__", "packed", "taken", "loss"],
    "views.py": ["first_view", "step", "rest", "views"],
    "shares.py": ["share", "ring", "table", "check_ring", "check_table"],
    "losses.py": ["greatest_loss", "worst_text", "loss_at"],
    "pairs.py": ["step_of_two", "share_of", "ring_of", "table_of", "check_ring_of", "check_table_of"],
    "compared.py": ["unlike_text", "dearest", "dearest_text", "needless", "needed_by", "without", "trimmed"],
    "growing.py": ["Growing", "Growing.add", "Growing.add_all", "Growing.text", "Growing.least", "Growing.file",
                   "Growing.back", "Growing.trying", "Growing.trial", "Growing.tried", "kept"],
    "archives.py": ["least_behind", "least_archive", "archive", "texts_of", "best_order"],
    "texts.py": ["format_text", "read_format", "way_text", "read_way"],
    "desk.py": ["Desk", "Desk.tell", "Desk.depth", "Desk.coding"],
    "sights.py": ["ready", "choices", "behind", "stands", "sight_share"],
    "plans.py": ["best_plan", "check_plan", "packed_by", "enemy_plan", "check_enemy", "enemy_text"],
    "ruled.py": ["step_of_rules", "share_of_rules", "ring_of_rules", "table_of_rules", "check_ring_of_rules",
                 "check_table_of_rules", "unlike_packed"],
    "pieces.py": ["least_pieces", "pieces", "step_of_pieces", "share_of_pieces", "ring_of_pieces", "table_of_pieces",
                  "check_ring_of_pieces", "check_table_of_pieces", "best_cuts"],
    "rates.py": ["dearest_at", "cheapest_at", "texts_with", "dearest_rate", "cheapest_rate", "ring_of_rate",
                 "check_ring_of_rate"],
    "bestcodes.py": ["best_prices", "total", "is_best"],
    "narrowing.py": ["narrowed", "shortened", "by_window", "by_longest", "least_window", "least_longest"],
    "rankings.py": ["rules_by_share", "least_sight", "lost_by"],
}

# The arguments of each function, class and method of the interface.
ARGUMENTS = """
errors: BadFormat(part) NoCommand() BadWay(at) NoBits() BadBits(at) TooFew(due) Left(at) NoUndo() BadText(place)
errors: BadNumber(part) BadPlaces() BadRule(part) BadView() TooMany(most) OtherLetters() BadTexts() BadLine() NoLine()
errors: NoName(name) BadSight() NoMove() BadFlag() BadCopies()
formats: Format(letters,words) Format.price(command) Format.commands() coded(letters,prices) room(coding)
files: spread(coding,way) written(coding,way) read(coding,bits) text_of(coding,bits)
readers: Reader(coding) Reader.push(bit) Reader.text() Reader.way() Reader.is_whole() Reader.may() Reader.lack()
readers: Reader.undo(many=1)
copying: copies(coding,text,at)
shortest: costs(coding,text) least(coding,text) shortest(coding,text) how_many(coding,text)
shortest: shortest_at(coding,text,number) check_heights(coding,text,bits,thing)
bounded: least_of(coding,text,most) least_through(coding,text,places) needs(coding,text,at)
rules: Rule(kind,ahead=0) Rule.sight(coding) packed(coding,rule,text) taken(coding,rule,text,at) loss(coding,rule,text)
views: first_view() step(coding,rule,view,letter) rest(coding,rule,view) views(coding,rule)
shares: share(coding,rule) ring(coding,rule) check_ring(coding,rule,thing) table(coding,rule)
shares: check_table(coding,rule,r,thing)
losses: greatest_loss(coding,rule) worst_text(coding,rule) loss_at(coding,rule,length)
pairs: step_of_two(one,other,view,letter) share_of(one,other) ring_of(one,other) table_of(one,other)
pairs: check_ring_of(one,other,thing) check_table_of(one,other,r,thing)
compared: unlike_text(one,other) dearest(one,other) dearest_text(one,other) needless(coding) needed_by(coding,copy)
compared: without(coding,copy) trimmed(coding)
growing: Growing(coding) Growing.add(letter) Growing.add_all(text) Growing.text() Growing.least() Growing.file()
growing: Growing.back(many=1) Growing.trying() Growing.trial(deed) Growing.tried(text) kept(coding,text,more)
archives: least_behind(coding,before,text) least_archive(coding,texts) archive(coding,texts) texts_of(coding,bits)
archives: best_order(coding,texts)
texts: format_text(coding) read_format(text) way_text(way) read_way(text)
desk: Desk() Desk.tell(line) Desk.depth() Desk.coding(name)
sights: ready(coding,sight,stand,letter) choices(coding,sight,stand) behind(coding,sight,stand,command)
sights: stands(coding,sight) sight_share(coding,sight)
plans: best_plan(coding,sight) check_plan(coding,sight,r,thing) packed_by(coding,sight,moves,text)
plans: enemy_plan(coding,sight) check_enemy(coding,sight,r,thing) enemy_text(coding,sight,moves,length)
ruled: step_of_rules(one,rule,other,second,view,letter) share_of_rules(one,rule,other,second)
ruled: ring_of_rules(one,rule,other,second) table_of_rules(one,rule,other,second)
ruled: check_ring_of_rules(one,rule,other,second,thing) check_table_of_rules(one,rule,other,second,r,thing)
ruled: unlike_packed(one,rule,other,second)
pieces: least_pieces(coding,text,m) pieces(coding,text,m) step_of_pieces(coding,m,view,letter)
pieces: share_of_pieces(coding,m) ring_of_pieces(coding,m) table_of_pieces(coding,m)
pieces: check_ring_of_pieces(coding,m,thing) check_table_of_pieces(coding,m,r,thing) best_cuts(coding,text,most)
rates: dearest_at(coding,length) cheapest_at(coding,length) texts_with(coding,length,bits) dearest_rate(coding)
rates: cheapest_rate(coding) ring_of_rate(coding,dear) check_ring_of_rate(coding,dear,thing)
bestcodes: best_prices(letters,copies,texts,most) total(coding,texts) is_best(coding,texts,most)
narrowing: narrowed(coding,window) shortened(coding,longest) by_window(coding) by_longest(coding)
narrowing: least_window(coding,r) least_longest(coding,r)
rankings: rules_by_share(coding,most) least_sight(coding,r) lost_by(coding,rule)
"""

IMPORTS = {"math": {"gcd", "lcm"}, "itertools": {"permutations"}, "heapq": {"heapify", "heappop", "heappush"}}
BUILTINS = {
    "len", "range", "enumerate", "zip", "min", "max", "sum", "abs", "sorted", "reversed", "int", "str", "bool", "list",
    "tuple", "dict", "set", "isinstance", "any", "all", "divmod", "property", "ValueError",
}
# Imported functions, and parameters that are functions.
CALLED = {"gcd", "lcm", "permutations", "heapify", "heappop", "heappush", "moved", "deed", "answer", "change"}
METHODS = {
    "append", "clear", "copy", "count", "endswith", "extend", "find", "get", "index", "insert", "isdigit", "items",
    "join", "keys", "partition", "pop", "remove", "removeprefix", "replace", "reverse", "setdefault", "split",
    "startswith", "strip", "update", "values", "zfill",
}
NODES_BARRED = (
    ast.Div, ast.Global, ast.AsyncFunctionDef, ast.Await, ast.GeneratorExp, ast.Starred, ast.Import, ast.Set,
)


def sources():
    """Pairs (file name, text) of the package."""
    found = []
    for name in sorted(os.listdir(FOLDER)):
        if name != "__pycache__":
            with open(os.path.join(FOLDER, name), encoding="utf-8", newline="") as file:
                found.append((name, file.read()))
    return found


def functions_of(tree):
    return [node for node in ast.walk(tree) if isinstance(node, ast.FunctionDef)]


def docstrings_of(tree):
    """The nodes of the strings that are docstrings."""
    held = [tree] + [node for node in ast.walk(tree) if isinstance(node, (ast.FunctionDef, ast.ClassDef))]
    return [node.body[0].value for node in held if ast.get_docstring(node) is not None]


class TestLanguage(unittest.TestCase):
    def test_files(self):
        for name, text in sources():
            self.assertRegex(name, r"^[a-z_]+\.py$")
            self.assertTrue(all([character == "\n" or " " <= character <= "~" for character in text]), name)
            self.assertLessEqual(len(text.splitlines()), 399, name)
            self.assertLessEqual(max([len(line) for line in text.splitlines()]), 120, name)

    def test_functions_are_small(self):
        for name, text in sources():
            for function in functions_of(ast.parse(text)):
                self.assertLessEqual(function.end_lineno - function.lineno + 1, 40, (name, function.name))

    def test_nodes(self):
        for name, text in sources():
            tree = ast.parse(text)
            docstrings = docstrings_of(tree)
            for node in ast.walk(tree):
                self.assertNotIsInstance(node, NODES_BARRED, name)
                if isinstance(node, ast.Constant) and node not in docstrings:
                    self.assertNotIsInstance(node.value, float, name)
                    self.assertNotIn("%", str(node.value), name)

    def test_imports(self):
        names = [name[:-3] for name, text in sources()]
        for name, text in sources():
            for node in ast.walk(ast.parse(text)):
                if isinstance(node, ast.ImportFrom):
                    package, _, file = node.module.partition(".")
                    self.assertTrue(file in names if package == "leastfile" else node.module in IMPORTS, name)
                    for alias in node.names:
                        self.assertIsNone(alias.asname)
                        self.assertIn(alias.name, IMPORTS.get(node.module, [alias.name]), name)

    def test_no_two_files_import_each_other(self):
        rows = {}
        for name, text in sources():
            nodes = [node for node in ast.walk(ast.parse(text)) if isinstance(node, ast.ImportFrom)]
            rows[name[:-3]] = {node.module.partition(".")[2] for node in nodes if node.module not in IMPORTS}
        while rows:
            free = [name for name in rows if not rows[name] & set(rows)]
            self.assertTrue(free, rows)
            rows = {name: rows[name] for name in rows if name not in free}

    def test_names_that_are_called(self):
        own = set()
        for name, text in sources():
            for node in ast.walk(ast.parse(text)):
                if isinstance(node, (ast.FunctionDef, ast.ClassDef)):
                    own.add(node.name)
        for name, text in sources():
            for node in ast.walk(ast.parse(text)):
                if isinstance(node, ast.Call) and isinstance(node.func, ast.Name):
                    self.assertIn(node.func.id, BUILTINS | own | CALLED, name)
                if isinstance(node, ast.Call) and isinstance(node.func, ast.Attribute):
                    self.assertIn(node.func.attr, METHODS | own, name)


    def test_local_names(self):
        for name, text in sources():
            tree = ast.parse(text)
            barred = set(dir(builtins)) | {node.name for node in ast.walk(tree) if isinstance(node, ast.ClassDef)}
            for node in ast.walk(tree):
                if isinstance(node, ast.ImportFrom):
                    barred |= {alias.name for alias in node.names}
            for node in ast.walk(tree):
                if isinstance(node, ast.arg):
                    self.assertNotIn(node.arg, barred, name)
                if isinstance(node, ast.Name) and isinstance(node.ctx, ast.Store):
                    self.assertNotIn(node.id, barred, name)

    def test_no_name_is_a_method_and_an_attribute(self):
        methods, attributes = set(), set()
        for name, text in sources():
            for node in ast.walk(ast.parse(text)):
                if isinstance(node, ast.ClassDef):
                    methods |= {function.name for function in functions_of(node)}
                if isinstance(node, ast.Attribute) and isinstance(node.ctx, ast.Store):
                    attributes.add(node.attr)
        self.assertEqual(methods & attributes, set())

    def test_handlers_name_own_errors(self):
        for name, text in sources():
            for node in ast.walk(ast.parse(text)):
                if isinstance(node, ast.ExceptHandler):
                    self.assertIn(node.type.id, INTERFACE["errors.py"], name)
                if isinstance(node, ast.Try):
                    self.assertEqual(node.finalbody, [], name)


class TestInterface(unittest.TestCase):
    def test_names_stand_in_their_files(self):
        found = dict(sources())
        for name, listed in INTERFACE.items():
            defined = []
            for node in ast.parse(found[name]).body:
                if isinstance(node, (ast.FunctionDef, ast.ClassDef)):
                    defined.append(node.name)
                if isinstance(node, ast.ClassDef):
                    defined += [node.name + "." + below.name for below in functions_of(node)]
            for each in listed:
                self.assertIn(each, defined, name)

    def test_arguments(self):
        told = {}
        for row in ARGUMENTS.strip().splitlines():
            name, _, rest = row.partition(": ")
            told.setdefault(name + ".py", []).extend(rest.split(" "))
        for name, listed in INTERFACE.items():
            plain = [each for each in listed if not each.endswith("__") and each != "PackError"]
            self.assertEqual(sorted(plain), sorted([each.partition("(")[0] for each in told[name]]))
            module = importlib.import_module("leastfile." + name[:-3])
            for each in told[name]:
                path, _, arguments = each.partition("(")
                found = module
                for part in path.split("."):
                    found = getattr(found, part)
                self.assertEqual(",".join(self.parameters_of(found)) + ")", arguments, each)

    def parameters_of(self, found):
        """The parameters of a function, a method or a class, as they are written, without self."""
        if inspect.isclass(found):
            if "__init__" not in vars(found):
                return []
            found = found.__init__
        parameters = [str(each) for each in inspect.signature(found).parameters.values()]
        return [each for each in parameters if each != "self"]

    def test_each_error_derives_directly_from_the_first(self):
        module = importlib.import_module("leastfile.errors")
        self.assertEqual(module.PackError.__bases__, (ValueError,))
        for name in INTERFACE["errors.py"][1:]:
            self.assertEqual(getattr(module, name).__bases__, (module.PackError,))
