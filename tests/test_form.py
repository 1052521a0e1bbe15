"""The form of the program: those rules of LANGUAGE.md that can be looked at by simple means; not every rule in full.

What the program doesn't use yet (sets, generators, `try`, `match`, annotations ..) the looker refuses whole, where
the rules would allow it. A later part that needs such a thing widens the looker by that thing's rule.
"""

import ast
import builtins
import inspect
import pathlib
import re
import unittest

from sizeladders import (desk, errors, grids, ladders, lands, leading, measures, pairs, parting, partlooks, reading, rising,
                         roundlooks, rounds, slips, stock, stocklooks, stretches)

TOP = pathlib.Path(__file__).resolve().parent.parent
PACKAGE = "sizeladders"

# The interface: what each file defines, and what each class has.
INTERFACE = {
    "errors": ["LadderError", "NoMeasure", "NoStretch", "NoLadder", "NoLine", "Slip", "NoText", "LandError", "NoSize",
               "NoLand", "LandTwice", "NoBottom", "NothingBack"],
    "measures": ["Measure", "read_measure"],
    "stretches": ["Stretch"],
    "ladders": ["Ladder", "even"],
    "slips": ["slip_of", "singles_of", "steps_of"],
    "rising": ["rise_of", "shows_rise"],
    "leading": ["led", "led_paper", "shows_led"],
    "rounds": ["round_from", "most_drift"],
    "roundlooks": ["shows_round"],
    "parting": ["parting"],
    "partlooks": ["shows_parting"],
    "stock": ["fits", "stock_for"],
    "stocklooks": ["shows_stock"],
    "grids": ["Grid"],
    "pairs": ["broken", "pair_for", "shows_pair"],
    "lands": ["Lands"],
    "reading": ["read_ladder", "read_lands"],
    "desk": ["Desk"],
}
METHODS = {
    "Measure": ["__init__", "__eq__", "__str__", "__repr__", "plus", "minus", "times", "parted", "is_below"],
    "Stretch": ["__init__", "__eq__", "__str__", "__repr__", "holds", "meets", "shared", "cut"],
    "Ladder": ["__init__", "__eq__", "__str__", "__repr__", "__len__", "size", "stretch"],
    "Grid": ["__init__", "long_mark", "broad_mark", "own"],
    "Lands": ["__init__", "__eq__", "__str__", "__repr__", "__len__", "tell", "drop", "back", "ladder", "label", "called",
              "lead", "names"],
    "Desk": ["__init__", "say"],
    "Slip": ["__init__"], "NoText": ["__init__"], "NoSize": ["__init__"], "NoLand": ["__init__"],
    "LandTwice": ["__init__"],
}

NODES = """Module Expr Constant ImportFrom alias FunctionDef ClassDef arguments arg Return Assign AugAssign If While For
Raise Break Continue Pass Name Load Store Attribute Call keyword Compare BoolOp And Or UnaryOp Not USub BinOp Add Sub Mult
FloorDiv Mod Eq NotEq Lt LtE Gt GtE Is IsNot In NotIn Tuple List Dict ListComp DictComp comprehension IfExp Subscript Slice
JoinedStr FormattedValue""".split()
BUILTINS = """len range enumerate zip min max sum abs sorted reversed int str bool bytes list tuple dict isinstance ord repr
any all divmod Exception ValueError TypeError KeyError IndexError LookupError ZeroDivisionError ArithmeticError super
OverflowError RuntimeError NotImplementedError""".split()
VALUE_METHODS = """append clear copy count endswith extend find get index insert isalnum isalpha isdigit islower isspace
isupper items join keys ljust lower lstrip partition pop remove replace reverse rfind rjust rpartition rsplit rstrip
setdefault split splitlines startswith strip update upper values zfill bit_length removeprefix removesuffix isascii
isdecimal""".split()
DUNDERS = "__init__ __eq__ __repr__ __str__ __len__".split()
BARRED_NAMES = "register mro elements open input law version_info with_traceback add_note format format_map".split()
BARRED_WORDS = """type typing typing_extensions enum Enum IntEnum StrEnum Flag IntFlag Generic Protocol ABC ABCMeta
namedtuple NamedTuple TypedDict TYPE_CHECKING abstractmethod""".split()
BARRED_PARTS = ["dataclass", "overload", "contextmanager"]
LIST_TAKERS = "list tuple dict sorted sum any all enumerate zip reversed min max".split()
GONE_THROUGH = "zip enumerate reversed range".split()
TAKEN = {name for kind in [str, int, list, dict, set, bytes, tuple] for name in dir(kind)}


def sources():
    return {path.stem: path.read_bytes().decode("utf-8") for path in sorted((TOP / PACKAGE).glob("*.py"))}


def named(node):
    """All names that node itself binds or uses."""
    if isinstance(node, ast.Name):
        return [node.id]
    if isinstance(node, ast.Attribute):
        return [node.attr]
    if isinstance(node, (ast.FunctionDef, ast.ClassDef)):
        return [node.name]
    if isinstance(node, (ast.arg, ast.keyword)):
        return [node.arg]
    if isinstance(node, ast.alias):
        return [node.asname or node.name]
    return []


def bound(node):
    """The names to which node gives a meaning."""
    if isinstance(node, ast.Name) and isinstance(node.ctx, ast.Load) or isinstance(node, (ast.Attribute, ast.keyword)):
        return []
    return named(node)


class Shape:
    """What one file, read, is made of."""

    def __init__(self, source):
        self.source = source
        self.lines = source.split("\n")
        self.tree = ast.parse(source)
        self.nodes = list(ast.walk(self.tree))
        self.functions = [node for node in self.nodes if isinstance(node, ast.FunctionDef)]
        self.classes = [node for node in self.nodes if isinstance(node, ast.ClassDef)]
        self.methods = {part.name for node in self.classes for part in node.body if isinstance(part, ast.FunctionDef)}
        self.values = {node.attr for node in self.nodes
                       if isinstance(node, ast.Attribute) and isinstance(node.ctx, ast.Store)}
        self.defined = [name for node in self.tree.body for name in self.names_of_row(node)]

    def names_of_row(self, node):
        if isinstance(node, ast.ImportFrom):
            return [name.asname or name.name for name in node.names]
        if isinstance(node, ast.Assign):
            return [target.id for target in node.targets if isinstance(target, ast.Name)]
        return named(node)


def faults_of_letters(shape):
    """L10, L14, L17 and L27: lines, characters and words."""
    if any(not (" " <= letter <= "~" or letter == "\n") for letter in shape.source):
        yield "L14 characters"
    if len(shape.lines) > 399 or any(len(line) > 120 for line in shape.lines):
        yield "L10 lines"
    for node in shape.functions:
        if node.end_lineno - node.lineno + 1 > 40:
            yield f"L10 {node.name} is long"
    for word in re.findall("[A-Za-z_]+", shape.source):
        if word in BARRED_WORDS or any(part in word for part in BARRED_PARTS):
            yield f"L17 word {word}"
    for node in shape.nodes:
        if isinstance(node, ast.Constant) and isinstance(node.value, str) and "%" in node.value:
            yield "L27 a percent sign in a string"
    if re.search(r"\\[^nt\\\"'\n]", shape.source):
        yield "L27 escapes"


def faults_of_names(shape, methods, values):
    """L8, L12, L15, L17, L18, L25 and L26: how things are called."""
    for node in shape.nodes:
        for name in named(node):
            if name in BARRED_NAMES or (name.startswith("_") and name not in DUNDERS):
                yield f"L12 or L17 {name}"
        for name in bound(node):
            is_method = isinstance(node, ast.FunctionDef) and name in methods
            if hasattr(builtins, name) and not is_method:
                yield f"L15 {name} is a builtin"
        if isinstance(node, ast.Attribute) and node.attr not in methods | values | set(VALUE_METHODS) | {"__init__"}:
            yield f"L18 or L25 {node.attr}"
    for name in sorted((shape.methods | shape.values) & TAKEN - set(DUNDERS)):
        yield f"L26 {name}"
    for name in sorted(methods & values):
        yield f"L18 {name} is a method and a value"
    for name in sorted({name for name in shape.defined if shape.defined.count(name) > 1}):
        yield f"L15 {name} is bound twice"
    known = set(shape.defined) | set(BUILTINS) | {name for node in shape.nodes for name in bound(node)}
    for node in shape.nodes:
        if isinstance(node, ast.Name) and node.id not in known:
            yield f"L8 {node.id}"


def faults_of_parts(shape):
    """L3 to L7, L20, L21 and L22: which parts of Python there are."""
    for node in shape.nodes:
        kind = node.__class__.__name__
        if kind not in NODES:
            yield f"L6 or L7 {kind}"
        if isinstance(node, ast.Constant) and isinstance(node.value, (float, complex)):
            yield "L7 a number with a point"
        if isinstance(node, ast.Compare):
            for sign, right in zip(node.ops, node.comparators):
                plain = isinstance(right, ast.Constant) and right.value in (None, True, False)
                if isinstance(sign, (ast.Is, ast.IsNot)) and not plain:
                    yield "L20 is"
        if isinstance(node, (ast.FunctionDef, ast.ClassDef)) and node.decorator_list:
            yield "L4 or L5 a decorator"
        if isinstance(node, ast.arg) and node.annotation or isinstance(node, ast.FunctionDef) and node.returns:
            yield "L21 an annotation"
        if isinstance(node, ast.FunctionDef):
            yield from faults_of_parameters(node)
    for node in shape.tree.body:
        if not isinstance(node, (ast.ImportFrom, ast.FunctionDef, ast.ClassDef, ast.Assign)) and not is_text(node):
            yield "L3 a row at module level"


def is_text(node):
    return isinstance(node, ast.Expr) and isinstance(node.value, ast.Constant) and isinstance(node.value.value, str)


def faults_of_parameters(node):
    if node.args.posonlyargs or node.args.vararg or node.args.kwarg or node.args.kwonlyargs:
        yield f"L4 parameters of {node.name}"
    if not all(isinstance(default, ast.Constant) for default in node.args.defaults):
        yield f"L4 defaults of {node.name}"


def faults_of_imports(shape, shapes):
    """L2 and L16: from the very file of the package that defines the name."""
    rows = [node for node in shape.tree.body if not is_text(node)]
    heads = [node for node in rows if isinstance(node, ast.ImportFrom)]
    if rows[:len(heads)] != heads or len(heads) != len([n for n in shape.nodes if isinstance(n, ast.ImportFrom)]):
        yield "L2 imports stand at the top"
    for node in heads:
        package, dot, file = (node.module or "").partition(".")
        if node.level or package != PACKAGE or file not in shapes:
            yield f"L2 import from {node.module}"
            continue
        own = [row.name for row in shapes[file].tree.body if isinstance(row, (ast.FunctionDef, ast.ClassDef))]
        own += [name for row in shapes[file].tree.body if isinstance(row, ast.Assign)
                for name in shapes[file].names_of_row(row)]
        for name in node.names:
            if name.name not in own or name.asname:
                yield f"L16 import of {name.name}"


def faults_of_errors(shape):
    """L19: an error is made on the spot, by the name of its class."""
    for node in shape.nodes:
        if isinstance(node, ast.Raise):
            made = isinstance(node.exc, ast.Call) and isinstance(node.exc.func, ast.Name)
            if not made or node.exc.func.id not in INTERFACE["errors"] or node.cause:
                yield "L19 raise"


def faults_of_dunders(shape):
    """L5 and L28: which there are, what they change, how they end."""
    for node in shape.functions:
        if not node.name.startswith("__"):
            continue
        inner = list(ast.walk(node))
        ends = [part for part in inner if isinstance(part, ast.Return)]
        if node.name == "__init__":
            if ends:
                yield "L28 __init__ returns"
            continue
        if any(isinstance(part, (ast.Assign, ast.AugAssign)) for part in inner):
            yield f"L28 {node.name} assigns"
        if not isinstance(node.body[-1], ast.Return):
            yield f"L28 the end of {node.name}"
        if node.name in ("__str__", "__repr__") and not all(is_string(part.value) for part in ends):
            yield f"L28 what {node.name} returns"


def is_string(node):
    if isinstance(node, ast.Call) and isinstance(node.func, ast.Name):
        return node.func.id in ("str", "repr")
    if isinstance(node, ast.Call) and isinstance(node.func, ast.Attribute):
        return node.func.attr == "join" and isinstance(node.func.value, ast.Constant)
    return isinstance(node, ast.JoinedStr) or (isinstance(node, ast.Constant) and isinstance(node.value, str))


def faults_of_locals(shape):
    """L15: nothing in a function is called as a class or an import of its file."""
    taken = {node.name for node in shape.classes}
    taken |= {name for node in shape.tree.body if isinstance(node, ast.ImportFrom) for name in shape.names_of_row(node)}
    for node in shape.nodes:
        if isinstance(node, (ast.Name, ast.arg)):
            for name in bound(node):
                if name in taken:
                    yield f"L15 {name} is a class or an import"


def imported_by(shape):
    """(file, name) of all that is imported."""
    return [((node.module or "").rpartition(".")[2], name.name) for node in shape.tree.body if isinstance(node, ast.ImportFrom)
            for name in node.names]


def faults_of_calls(shape, shapes):
    """L3, L22 and L23: what is called, with how much, and what is gone through on the spot."""
    functions = {row.name: row for name, other in [*shapes.items(), ("", shape)] for row in other.tree.body
                 if isinstance(row, ast.FunctionDef) and (other == shape or (name, row.name) in imported_by(shape))}
    at_once = [node.iter for node in shape.nodes if isinstance(node, (ast.For, ast.comprehension))]
    for node in shape.nodes:
        if not isinstance(node, ast.Call):
            continue
        name = node.func.id if isinstance(node.func, ast.Name) else None
        if not isinstance(node.func, (ast.Name, ast.Attribute)):
            yield "L3 a call of something without a name"
        if name in functions:
            arguments = functions[name].args
            many, most = len(node.args) + len(node.keywords), len(arguments.args)
            if not most - len(arguments.defaults) <= many <= most:
                yield f"L22 a call of {name}"
        if name in LIST_TAKERS:
            at_once += node.args[:1]
        if isinstance(node.func, ast.Attribute) and node.func.attr == "join":
            at_once += node.args
    for node in shape.nodes:
        if isinstance(node, ast.Call) and isinstance(node.func, ast.Name) and node.func.id in GONE_THROUGH:
            if node not in at_once:
                yield f"L23 {node.func.id} is kept"


def faults_of_tables(shape):
    """L15: a list or dict at module level is only asked by an index or by `in`."""
    tables = {name for node in shape.tree.body if isinstance(node, ast.Assign) and isinstance(node.value, (ast.List, ast.Dict))
              for name in shape.names_of_row(node)}
    asked = [node.value for node in shape.nodes if isinstance(node, ast.Subscript) and isinstance(node.ctx, ast.Load)]
    asked += [part for node in shape.nodes if isinstance(node, ast.Compare) for part in node.comparators]
    for node in shape.nodes:
        if isinstance(node, ast.Name) and isinstance(node.ctx, ast.Load) and node.id in tables and node not in asked:
            yield f"L15 the table {node.id} is passed on"


def faults_of(source, others=None):
    """All faults of a file of the package, beside the other files."""
    shape = Shape(source)
    shapes = {name: Shape(other) for name, other in (others or {}).items()}
    methods = set().union(shape.methods, *[other.methods for other in shapes.values()])
    values = set().union(shape.values, *[other.values for other in shapes.values()])
    return [*faults_of_letters(shape), *faults_of_names(shape, methods, values), *faults_of_parts(shape),
            *faults_of_imports(shape, shapes), *faults_of_errors(shape), *faults_of_dunders(shape), *faults_of_locals(shape),
            *faults_of_calls(shape, shapes), *faults_of_tables(shape)]


BAD = [
    "def tell():\n    return 1 / 2\n", "def tell():\n    return 1.5\n", "import math\n", "from fractions import Fraction\n",
    "from sizeladders.gone import tell\n", "from . import measures\n", "def tell():\n    print(1)\n",
    "def tell(xs):\n    return set(xs)\n", "def tell():\n    return {1, 2}\n", "def tell(a, b):\n    return a is b\n",
    "def tell(a: int):\n    return a\n", "def tell(*a):\n    return a\n", "def tell(a, /):\n    return a\n",
    "def tell(a=[]):\n    return a\n", "X = 1\nX = 2\n", "def tell(list):\n    return list\n", "def tell():\n    pass\ntell()\n",
    "def tell(a):\n    hidden = a\n    _b = hidden\n    return _b\n", "# what type it is\n", "X = \"a\t\"\n", "X = \"\u00e9\"\n",
    "X = \"5%\"\n", "X = \"\\x41\"\n", "def tell(a):\n    return a ** 2\n", "def tell():\n    raise KeyError\n",
    "def tell():\n    raise ValueError(\"a\")\n", "def tell(a):\n    try:\n        a()\n    except Exception:\n        pass\n",
    "class Box:\n    def __hash__(self):\n        return 1\n", "class Box:\n    def __init__(self):\n        return None\n",
    "class Box:\n    def __str__(self):\n        text = \"a\"\n        return text\n",
    "class Box:\n    def __repr__(self):\n        return self.name()\n    def name(self):\n        return \"a\"\n",
    "class Box:\n    def __eq__(self, other):\n        if other:\n            return True\n",
    "class Box:\n    def told(self):\n        return 1\n    def other(self):\n        self.told = 2\n",
    "class Box:\n    def update(self):\n        return 1\n", "def tell(box):\n    return box.nowhere\n",
    "def tell():\n    return 1\nfrom sizeladders.measures import Measure\n", "def tell(xs):\n    xs.sort()\n",
    "def tell():\n" + "    pass\n" * 40, "X = 1\n" * 400, "X = \"" + "a" * 120 + "\"\n", "X = 1\nglobal X\n",
    "def tell(a):\n    return (lambda: a)\n", "def tell(a):\n    yield a\n", "def tell(a):\n    return unknown(a)\n",
    "from sizeladders.measures import Measure\ndef tell(Measure):\n    return Measure\n", "def tell(a):\n    return tell(a, 1)\n",
    "def tell(a):\n    return tell()\n",
    "from sizeladders.kinds import is_word\ndef tell(a):\n    return is_word(a)\n", "def tell(a):\n    b = zip(a, a)\n    return b\n", "def tell(a):\n    return range(a)\n",
    "T = {\"a\": 1}\ndef tell(a):\n    return a(T)\n", "T = [1]\ndef tell(a):\n    T[0] = a\n", "T = [1]\ndef tell(a):\n    return T\n",
    "def tell(a):\n    return 1\nT = {\"a\": tell}\ndef ask(a):\n    return T[a](a)\n", "T = [1]\ndef tell(a):\n    T.append(a)\n",
    "@staticmethod\ndef tell(a):\n    return a\n", "def tell(a):\n    return f\"{a}\" \"%\"\n",
]


class FormOfTheProgram(unittest.TestCase):
    def test_the_folder_holds_plain_files_only(self):
        for path in (TOP / PACKAGE).iterdir():
            if path.name != "__pycache__":
                self.assertRegex(path.name, r"^(__init__|[a-z][a-z0-9_]*)\.py$")
                self.assertTrue(path.is_file())
        self.assertTrue((TOP / PACKAGE / "__init__.py").is_file())
        for name in INTERFACE:
            self.assertTrue((TOP / PACKAGE / f"{name}.py").is_file())

    def test_every_file_is_in_the_subset(self):
        files = sources()
        for name, source in files.items():
            with self.subTest(file=name):
                self.assertEqual(faults_of(source, files), [])

    def test_no_two_files_import_from_each_other(self):
        froms = {name: {node.module.split(".")[1] for node in Shape(source).nodes if isinstance(node, ast.ImportFrom)}
                 for name, source in sources().items()}
        while froms:
            free = [name for name in froms if not froms[name] & set(froms)]
            self.assertTrue(free, froms)
            for name in free:
                del froms[name]

    def test_the_looker_sees_what_is_wrong(self):
        files = sources()
        for source in BAD:
            with self.subTest(source=source[:80]):
                self.assertNotEqual(faults_of(source, files) if compiles(source) else ["no Python"], [])


def compiles(source):
    try:
        ast.parse(source)
    except SyntaxError:
        return False
    return True


class TheInterface(unittest.TestCase):
    def test_each_name_is_defined_in_its_own_file(self):
        for name, source in sources().items():
            defined = {node.name: node for node in ast.parse(source).body
                       if isinstance(node, (ast.FunctionDef, ast.ClassDef))}
            for thing in INTERFACE.get(name, []):
                with self.subTest(file=name, thing=thing):
                    self.assertIn(thing, defined)
                    rows = [part.name for part in defined[thing].body if isinstance(part, ast.FunctionDef)] \
                        if isinstance(defined[thing], ast.ClassDef) else []
                    self.assertLessEqual(set(METHODS.get(thing, [])), set(rows))

    def test_arguments_and_defaults(self):
        told = {
            measures.Measure: "(top, bottom=1)", measures.read_measure: "(text)",
            measures.Measure.plus: "(self, other)", measures.Measure.minus: "(self, other)",
            measures.Measure.times: "(self, other)", measures.Measure.parted: "(self, many=2)",
            measures.Measure.is_below: "(self, other, alike=False)",
            stretches.Stretch: "(low, high, low_in=False, high_in=True)",
            stretches.Stretch.holds: "(self, measure)", stretches.Stretch.meets: "(self, other)",
            stretches.Stretch.shared: "(self, other)", stretches.Stretch.cut: "(self, other)",
            ladders.Ladder: "(marks, rule='up', least=None, most=None)",
            ladders.Ladder.size: "(self, measure)", ladders.Ladder.stretch: "(self, number)",
            ladders.even: "(first, step, many, rule='up', least=None, most=None)",
            slips.slip_of: "(rows)", slips.singles_of: "(rows)", slips.steps_of: "(rows)",
            rising.rise_of: "(rows)", rising.shows_rise: "(rows, thing)",
            leading.led: "(one, number, other)", leading.led_paper: "(one, number, other)",
            leading.shows_led: "(one, number, other, run, paper)",
            rounds.round_from: "(ladders, number)", rounds.most_drift: "(ladders)",
            roundlooks.shows_round: "(ladders, number, thing)",
            parting.parting: "(one, other, low, high, shift=0)",
            partlooks.shows_parting: "(one, other, low, high, shift, thing)",
            stock.fits: "(ladder, foot, slack, tight=None)", stock.stock_for: "(ladder, feet, slack, tight=None)",
            stocklooks.shows_stock: "(ladder, feet, slack, tight, thing)",
            grids.Grid: "(lengths, breadths, grade=None)", grids.Grid.long_mark: "(self, pair)",
            grids.Grid.broad_mark: "(self, pair)", grids.Grid.own: "(self, foot)",
            pairs.broken: "(grid, pair, foot, slack)", pairs.pair_for: "(grid, feet, slack)",
            pairs.shows_pair: "(grid, feet, slack, thing)",
            lands.Lands: "()", lands.Lands.tell: "(self, name, ladder, first=None, step=None)",
            lands.Lands.drop: "(self, name)", lands.Lands.back: "(self)", lands.Lands.ladder: "(self, name)",
            lands.Lands.label: "(self, name, number)", lands.Lands.called: "(self, name, label)",
            lands.Lands.lead: "(self, name, label, other)", lands.Lands.names: "(self)",
            reading.read_ladder: "(text)", reading.read_lands: "(text)",
            desk.Desk: "(text='none')", desk.Desk.say: "(self, line)",
            errors.Slip: "(row)", errors.NoText: "(row, why='form')", errors.NoSize: "(number)",
            errors.NoLand: "(name)", errors.LandTwice: "(name)",
        }
        for thing, arguments in told.items():
            with self.subTest(thing=thing.__qualname__):
                self.assertEqual(str(inspect.signature(thing)), arguments)


if __name__ == "__main__":
    unittest.main()
