"""What a test can see of the rules L1 to L28 of LANGUAGE.md.

faults(files) tells what breaks them, as a list of texts that begin with the rule's
name. files is a dict from a file's path, seen from above the package, to its bytes.
Where a rule says "best none" or can be read in two ways, the stricter one is held.
The package has no __main__.py, so what the rules grant to that file is granted to none.
"""

import ast
import builtins
import io
import re
import tokenize
import types

PACKAGE = "countkin"

CALLED = """len range enumerate zip min max sum abs sorted reversed int str bool list tuple dict
    set frozenset isinstance ord repr any all divmod""".split()
ERRORS = """Exception ValueError TypeError KeyError IndexError LookupError ZeroDivisionError
    ArithmeticError OverflowError RuntimeError NotImplementedError AttributeError StopIteration""".split()
KINDS = "int str bool list tuple dict".split()
KEYS = "len int str abs sum min max tuple".split()
KEYWORDS = {
    "sorted": ["key", "reverse"], "min": ["key", "default"], "max": ["key", "default"],
    "sum": ["start"], "enumerate": ["start"], "zip": ["strict"],
}
DOUBLE = "__init__ __eq__ __repr__ __str__ __len__".split()
METHODS = """append clear copy count endswith extend find get index insert isalnum isalpha isdigit
    islower isspace isupper items join keys ljust lower lstrip partition pop remove replace reverse
    rfind rjust rpartition rsplit rstrip setdefault split splitlines startswith strip update upper
    values zfill bit_length""".split()
CHANGING = "append clear extend insert pop remove reverse setdefault update add discard sort".split()
VALUES = "count index title find get join lower upper split strip copy add".split()
READING = "get items keys values index count copy".split()
READERS = "len sorted sum min max any all list tuple dict set enumerate zip reversed".split()
WALKED = "zip enumerate reversed range".split()
WALKERS = "list tuple dict sorted sum any all enumerate zip".split()
NOWHERE = "register mro elements open input version_info with_traceback add_note".split()
NO_NAMES = """attrgetter breakpoint builtins compile copyright credits delattr dir eval exec exit gc
    getattr globals hasattr help id importlib license locals methodcaller os quit setattr super type
    vars sys __name__""".split()
NO_WORDS = """type typing typing_extensions enum Enum IntEnum StrEnum Flag IntFlag Generic Protocol ABC
    ABCMeta namedtuple NamedTuple TypedDict TYPE_CHECKING abstractmethod""".split()
NO_PARTS = "dataclass overload contextmanager".split()
NO_FILES = "test tests testing site conftest sitecustomize usercustomize".split() + NO_WORDS + NO_PARTS

OWN_KINDS = (str, int, list, dict, set, frozenset, tuple, bytes)
TAKEN = {name for kind in OWN_KINDS for name in dir(kind)}
FRAMES = {
    name for kind in (types.FrameType, types.TracebackType, types.CodeType)
    for name in dir(kind) if not name.startswith("__")
} - {"replace"}
BUILT_IN = set(dir(builtins))

STATEMENTS = (
    ast.Assign, ast.AugAssign, ast.AnnAssign, ast.If, ast.While, ast.For, ast.Return, ast.Break, ast.Continue,
    ast.Pass, ast.Raise, ast.Try, ast.Expr, ast.FunctionDef, ast.ClassDef, ast.Import, ast.ImportFrom,
)
EXPRESSIONS = (
    ast.Constant, ast.List, ast.Tuple, ast.Dict, ast.Set, ast.BinOp, ast.UnaryOp, ast.BoolOp, ast.Compare,
    ast.IfExp, ast.Call, ast.Attribute, ast.Subscript, ast.Slice, ast.ListComp, ast.JoinedStr,
    ast.FormattedValue, ast.Lambda, ast.Name,
)
FUNCTIONS = (ast.FunctionDef, ast.AsyncFunctionDef, ast.Lambda)
PLAIN_NAME = re.compile(r"[A-Za-z][A-Za-z0-9_]*")


class Page:
    """One file of the package, read into its tree."""

    def __init__(self, path, text):
        self.path = path
        self.text = text
        self.module = path[:-3].replace("/", ".")
        self.tree = ast.parse(text)
        self.nodes = list(ast.walk(self.tree))
        self.parents = {child: node for node in self.nodes for child in ast.iter_child_nodes(node)}

    def of(self, *kinds):
        return [node for node in self.nodes if isinstance(node, kinds)]

    def parent(self, node):
        return self.parents.get(node)

    def above(self, node):
        """The nodes around a node, the nearest first."""
        found = []
        while node in self.parents:
            node = self.parents[node]
            found.append(node)
        return found

    def top_names(self):
        """The names bound at the file's top, each as often as it is bound."""
        return [name for node in self.tree.body for name in bound_by(node)]

    def imported(self):
        return {alias.asname or alias.name for node in self.of(ast.ImportFrom) for alias in node.names}

    def inside_def(self, node):
        return any(isinstance(one, FUNCTIONS) for one in self.above(node))


class Book:
    """All files of the package, and what is known of its classes."""

    def __init__(self, pages):
        self.pages = pages
        self.classes = {node.name: node for page in pages for node in page.of(ast.ClassDef)}
        self.methods = {one.name for node in self.classes.values() for one in node.body
                        if isinstance(one, ast.FunctionDef)}
        self.values = {node.attr for page in pages for node in page.of(ast.Attribute)
                       if isinstance(node.ctx, ast.Store)}
        self.errors = {name for name in self.classes if self.is_error(name)}

    def is_error(self, name):
        seen = []
        while name in self.classes and name not in seen:
            seen.append(name)
            bases = self.classes[name].bases
            name = bases[0].id if bases and isinstance(bases[0], ast.Name) else ""
        return name in BUILT_IN and name not in CALLED and name != "object"


def bound_by(node):
    """The names that a statement of a file's top binds."""
    if isinstance(node, (ast.FunctionDef, ast.ClassDef)):
        return [node.name]
    if isinstance(node, (ast.Import, ast.ImportFrom)):
        return [(alias.asname or alias.name).split(".")[0] for alias in node.names]
    return [one.id for one in ast.walk(node) if isinstance(one, ast.Name) and isinstance(one.ctx, ast.Store)]


def local_names(node):
    """All names that a function binds: parameters, targets, handlers, defs within."""
    found = []
    for one in ast.walk(node):
        if isinstance(one, ast.arg):
            found.append(one.arg)
        elif isinstance(one, ast.Name) and isinstance(one.ctx, ast.Store):
            found.append(one.id)
        elif isinstance(one, ast.ExceptHandler) and one.name:
            found.append(one.name)
        elif isinstance(one, ast.FunctionDef) and one is not node:
            found.append(one.name)
    return found


def named(node, names):
    return isinstance(node, ast.Name) and node.id in names


def calls(node, names):
    """Whether a node is a call of one of these names."""
    return isinstance(node, ast.Call) and named(node.func, names)


def calls_method(node, names):
    return isinstance(node, ast.Call) and isinstance(node.func, ast.Attribute) and node.func.attr in names


def is_docstring(page, node):
    parent = page.parent(node)
    body = getattr(parent, "body", None)
    return (isinstance(parent, (ast.Module, ast.FunctionDef, ast.ClassDef)) and body[0] is node
            and isinstance(node.value, ast.Constant) and isinstance(node.value.value, str))


def is_whole(node):
    return isinstance(node, ast.Constant) and isinstance(node.value, int) and not isinstance(node.value, bool)


def is_plain(node, defs):
    """Whether a value at a file's top is plain; defs are the functions above it."""
    if isinstance(node, ast.Constant):
        return node.value is None or isinstance(node.value, (int, str))
    if isinstance(node, ast.UnaryOp):
        return isinstance(node.op, ast.USub) and is_whole(node.operand)
    if isinstance(node, (ast.List, ast.Tuple)):
        return all(is_plain(one, defs) or named(one, defs) for one in node.elts)
    if isinstance(node, ast.Dict):
        return all(one is not None and (is_plain(one, defs) or named(one, defs))
                   for one in node.keys + node.values)
    return False


def rule_1(book):
    for page in book.pages:
        for part in page.path.split("/"):
            if not re.fullmatch(r"[A-Za-z0-9_]+(\.py)?", part):
                yield page, 1, "no plain file name"


def rule_2(book):
    for page in book.pages:
        for node in page.of(ast.Import, ast.ImportFrom):
            if page.parent(node) is not page.tree:
                yield page, node, "an import that is not at the top"
        for node in page.of(ast.Import):
            yield page, node, "a row that begins with import"
        for node in page.of(ast.ImportFrom):
            names = [alias.name for alias in node.names]
            if node.module == "__future__" and node.level == 0 and names == ["annotations"]:
                continue
            if node.level or not (node.module or "").startswith(PACKAGE + "."):
                yield page, node, "an import from outside the package, or by a dot"
            if "*" in names or "__main__" in (node.module or ""):
                yield page, node, "an import of * or of __main__"
        begun = False
        for node in page.tree.body:
            is_import = isinstance(node, (ast.Import, ast.ImportFrom))
            if is_import and begun:
                yield page, node, "an import behind other statements"
            begun = begun or not (is_import or isinstance(node, ast.Expr))


def rule_3(book):
    for page in book.pages:
        defs = []
        for node in page.tree.body:
            if isinstance(node, ast.FunctionDef):
                defs.append(node.name)
            elif isinstance(node, ast.Assign):
                if not (isinstance(node.targets[0], ast.Name) and is_plain(node.value, defs)):
                    yield page, node, "no plain value at the top"
            elif isinstance(node, ast.Expr):
                if not is_docstring(page, node):
                    yield page, node, "something is done at the top"
            elif not isinstance(node, (ast.ClassDef, ast.Import, ast.ImportFrom)):
                yield page, node, "a statement that does not stand at the top"


def rule_4(book):
    for page in book.pages:
        for node in page.of(*FUNCTIONS):
            args = node.args
            if args.vararg or args.kwarg or args.kwonlyargs or args.posonlyargs:
                yield page, node, "a parameter that is not plain"
            for value in args.defaults:
                if isinstance(value, (ast.List, ast.Dict)) or not is_plain(value, []):
                    yield page, node, "a default that is not plain"
            if not isinstance(node, ast.Lambda) and node.decorator_list:
                yield page, node, "a decorator"


def rule_5(book):
    for page in book.pages:
        for node in page.of(ast.ClassDef):
            if node.decorator_list or node.keywords or len(node.bases) > 1:
                yield page, node, "a decorator, a keyword, or more than one base"
            for base in node.bases:
                if not named(base, list(book.classes) + ERRORS):
                    yield page, node, "a base from elsewhere"
            for one in node.body:
                text = isinstance(one, ast.Expr) and is_docstring(page, one)
                if not (text or isinstance(one, (ast.FunctionDef, ast.Pass))):
                    yield page, one, "something else than a method in a class"
                if isinstance(one, ast.FunctionDef) and one.name.startswith("__") and one.name not in DOUBLE:
                    yield page, one, "a method with two underscores that is not granted"


def rule_6(book):
    for page in book.pages:
        for node in page.of(ast.stmt):
            if not isinstance(node, STATEMENTS):
                yield page, node, "a statement that is not granted"
            elif isinstance(node, (ast.For, ast.While)) and node.orelse:
                yield page, node, "else behind a loop"
            elif isinstance(node, ast.Try) and node.finalbody:
                yield page, node, "finally"
            elif isinstance(node, ast.Assign) and (len(node.targets) > 1 or not isinstance(
                    node.targets[0], (ast.Name, ast.Attribute, ast.Subscript))):
                yield page, node, "more than one target"
            elif isinstance(node, ast.Expr) and not isinstance(node.value, ast.Call):
                if not is_docstring(page, node):
                    yield page, node, "an expression by itself that is no call"
        for node in page.of(ast.ExceptHandler):
            if node.type is None:
                yield page, node, "except without a class"


def rule_7(book):
    for page in book.pages:
        for node in page.of(ast.expr):
            if not isinstance(node, EXPRESSIONS):
                yield page, node, "an expression that is not granted"
            elif isinstance(node, ast.Constant):
                if not (node.value is None or isinstance(node.value, (int, str))):
                    yield page, node, "a value that is not granted"
            elif isinstance(node, ast.Dict) and None in node.keys:
                yield page, node, "a star in a dict"
            elif isinstance(node, ast.Set) and not page.inside_def(node):
                yield page, node, "a set outside a function"
            elif isinstance(node, ast.Call) and any(one.arg is None for one in node.keywords):
                yield page, node, "a star in a call"
            elif isinstance(node, ast.ListComp):
                if len(node.generators) > 1 or len(node.generators[0].ifs) > 1:
                    yield page, node, "more than one for or if"
            elif isinstance(node, ast.FormattedValue):
                if not (isinstance(node.value, ast.Name) and node.conversion in (-1, 114)
                        and node.format_spec is None):
                    yield page, node, "braces that are not plain"
        for node in page.of(ast.BinOp, ast.AugAssign):
            if isinstance(node.op, (ast.Div, ast.MatMult)):
                yield page, node, "an operator that is not granted"


def rule_8(book):
    for page in book.pages:
        known = set(page.top_names()) | set(CALLED) | set(ERRORS) | {"__name__"}
        for node in page.of(ast.Name):
            if isinstance(node.ctx, ast.Load) and node.id not in known:
                around = [one for one in page.above(node) if isinstance(one, FUNCTIONS)]
                if not around or node.id not in local_names(around[-1]):
                    yield page, node, f"the name {node.id} is not granted"
        for node, name in bindings(page):
            if name in CALLED + ERRORS + ["chr", "print"]:
                yield page, node, f"{name} is given another meaning"
            if name.startswith("__") and name not in DOUBLE + ["__all__", "__version__"]:
                yield page, node, f"{name} has two underscores"
        for node in page.of(ast.Attribute):
            if node.attr in ("format", "format_map", "mro"):
                yield page, node, f"the attribute {node.attr}"
            if node.attr.startswith("__") and node.attr not in ("__name__", "__init__"):
                yield page, node, f"the attribute {node.attr}"


def bindings(page):
    """Pairs of a node and a name that it binds, in the whole file."""
    for node in page.nodes:
        if isinstance(node, (ast.FunctionDef, ast.ClassDef)):
            if not (isinstance(node, ast.FunctionDef) and isinstance(page.parent(node), ast.ClassDef)
                    and node.name not in DOUBLE and not node.name.startswith("_")):
                yield node, node.name
        elif isinstance(node, ast.arg):
            yield node, node.arg
        elif isinstance(node, ast.Name) and isinstance(node.ctx, ast.Store):
            yield node, node.id
        elif isinstance(node, ast.ExceptHandler) and node.name:
            yield node, node.name
        elif isinstance(node, ast.ImportFrom):
            for alias in node.names:
                yield node, alias.asname or alias.name


def rule_9(book):
    for page in book.pages:
        for node in page.of(ast.Name):
            if node.id in ("print", "open", "input", "sys", "os", "time", "random"):
                yield page, node, f"{node.id}: input or output"


def rule_10(book):
    for page in book.pages:
        lines = page.text.split("\n")
        if len(page.text.splitlines()) > 400:
            yield page, 401, "a file of more than 400 lines"
        for place, line in enumerate(lines, start=1):
            if len(line) > 120 or "\t" in line:
                yield page, place, "a line of more than 120 signs, or a tab"
        for node in page.of(ast.FunctionDef):
            if node.end_lineno - node.lineno + 1 > 40:
                yield page, node, "a function of more than 40 lines"


def rule_11(book):
    for page in book.pages:
        for node in page.of(ast.ExceptHandler):
            own = all(one in book.errors for one in handled(node))
            for one in ast.walk(node):
                if named(one, [node.name]) and not own:
                    parent = page.parent(one)
                    if not (isinstance(parent, ast.Raise) and parent.cause is one):
                        yield page, one, "an error of Python's own is looked at"


def rule_12(book):
    for page in book.pages:
        names = list(bindings(page))
        names += [(node, node.attr) for node in page.of(ast.Attribute)]
        names += [(node, node.arg) for node in page.of(ast.keyword) if node.arg]
        for node, name in names:
            granted = DOUBLE + ["__all__", "__version__", "__name__"]
            if not PLAIN_NAME.fullmatch(name) and name not in granted:
                yield page, node, f"{name} is no plain name"


def rule_13(book):
    for page in book.pages:
        for node in page.of(ast.Set):
            parent = page.parent(node)
            asked = isinstance(parent, ast.Compare) and isinstance(parent.ops[0], (ast.In, ast.NotIn))
            if len([one for one in node.elts if is_whole(one)]) > 2 and not asked:
                yield page, node, "a set of whole numbers written out"
        seen = []
        for node in page.of(ast.Lambda):
            key = (node.lineno, [one.arg for one in node.args.args])
            if key in seen:
                yield page, node, "two lambdas alike on one line"
            seen.append(key)


def rule_14(book):
    folders = {page.path.rpartition("/")[0] for page in book.pages}
    paths = [page.path for page in book.pages]
    for page in book.pages:
        folder, _, name = page.path.rpartition("/")
        stem = name[:-3]
        if folder.split("/")[0] != PACKAGE or name == "__main__.py":
            yield page, 1, "a file that the package does not hold"
        for word in folder.split("/") + [stem]:
            if word != word.lower() or word in NO_FILES or word in BUILT_IN or word.startswith("test_"):
                yield page, 1, f"{word} is no name of a file or folder here"
        for place, line in enumerate(page.text.split("\n"), start=1):
            if not re.fullmatch(r"[ -~]*", line):
                yield page, place, "a sign that is not from the blank to ~"
    for folder in sorted(folders):
        if folder + "/__init__.py" not in paths:
            yield book.pages[0], 1, f"{folder} has no __init__.py"


def rule_15(book):
    for page in book.pages:
        tops = page.top_names()
        for name in sorted(set(tops)):
            if tops.count(name) > 1:
                yield page, 1, f"{name} is bound more than once at the top"
        for node in page.of(ast.ClassDef):
            if page.parent(node) is not page.tree:
                yield page, node, "a class that is not at the top"
        classes = [node.name for node in page.of(ast.ClassDef)]
        for node, name in bindings(page):
            at_top = page.parent(node) is page.tree or page.parent(page.parent(node)) is page.tree
            if name in BUILT_IN - {"__doc__"} and not isinstance(page.parent(node), ast.ClassDef):
                yield page, node, f"{name} is a name of Python's own"
            local = isinstance(node, ast.arg) or not at_top
            if local and (name in classes or name in page.imported()):
                yield page, node, f"{name} is a class or an import of this file"
        yield from kept_at_top(page)


def kept_at_top(page):
    """Lists and dicts of a file's top that hold one another or are not only read."""
    kept = []
    for node in page.tree.body:
        if isinstance(node, ast.Assign):
            inner = [one for one in ast.walk(node.value) if isinstance(one, (ast.List, ast.Dict))]
            if [one for one in inner if one is not node.value]:
                yield page, node, "a list or dict within a value of the top"
            if inner and isinstance(node.targets[0], ast.Name):
                kept.append(node.targets[0].id)
    for node in page.of(ast.Name):
        around = [one for one in page.above(node) if isinstance(one, FUNCTIONS)]
        if node.id in kept and around and node.id not in local_names(around[-1]):
            if not only_read(page, node):
                yield page, node, f"{node.id} is not only read"


def only_read(page, node):
    parent = page.parent(node)
    if isinstance(parent, ast.Subscript):
        return parent.value is node and isinstance(parent.ctx, ast.Load)
    if isinstance(parent, (ast.For, ast.comprehension)):
        return parent.iter is node
    if isinstance(parent, ast.Attribute):
        return parent.attr in READING and isinstance(page.parent(parent), ast.Call)
    return isinstance(parent, ast.Compare) or (calls(parent, READERS) and node in parent.args)


def rule_16(book):
    modules = {page.module: page for page in book.pages}
    draws = {}
    for page in book.pages:
        draws[page.module] = set()
        for node in page.of(ast.ImportFrom):
            if node.module == "__future__":
                continue
            source = modules.get(node.module)
            for alias in node.names:
                if source is None or alias.name not in source.top_names() or alias.name in source.imported():
                    yield page, node, f"{alias.name} is not defined in {node.module}"
            draws[page.module].add(node.module)
            parts = (node.module or "").split(".")
            for length in range(1, len(parts)):
                draws[page.module].add(".".join(parts[:length]) + ".__init__")
    for module, page in modules.items():
        if module in reached(draws, module):
            yield page, 1, "files that draw from one another"
        if module.endswith("__init__"):
            folder = module[:-len("__init__")]
            for name in page.top_names():
                if folder + name in modules:
                    yield page, 1, f"{name} is a file's name"


def reached(draws, module):
    found = []
    row = list(draws[module])
    while row:
        one = row.pop()
        if one not in found:
            found.append(one)
            row.extend(draws.get(one, ()))
    return found


def rule_17(book):
    for page in book.pages:
        names = list(bindings(page)) + [(node, node.id) for node in page.of(ast.Name)]
        wide = names + [(node, node.attr) for node in page.of(ast.Attribute)]
        wide += [(node, node.name) for node in page.of(ast.FunctionDef)]
        for node, name in wide:
            if name in NOWHERE or name in FRAMES:
                yield page, node, f"{name} is used"
        for node, name in names:
            if name in NO_NAMES:
                yield page, node, f"{name} is used as a name"
        for place, line in enumerate(page.text.split("\n"), start=1):
            for word in re.findall(r"[A-Za-z0-9_]+", line):
                if word in NO_WORDS or any(part in word for part in NO_PARTS):
                    yield page, place, f"the word {word}"


def rule_18(book):
    for page in book.pages:
        for node in page.of(ast.Name):
            if node.id in book.classes and isinstance(node.ctx, ast.Load) and not class_in_place(page, node):
                yield page, node, f"the class {node.id} is handed on"
        for node in page.of(ast.Attribute):
            if isinstance(node.ctx, ast.Store):
                root = node.value
                if named(root, set(page.top_names()) | set(book.classes)):
                    yield page, node, "a value is given to a class or a name of the top"
    for page in book.pages:
        for node in page.of(ast.ClassDef):
            methods = [one.name for one in node.body if isinstance(one, ast.FunctionDef)]
            if len(methods) != len(set(methods)):
                yield page, node, "a method that stands twice"
            for name in methods:
                if name in book.values:
                    yield page, node, f"{name} is a method and a value"
            if node.name in book.errors and named(node.bases[0], ["StopIteration", "AttributeError"]):
                yield page, node, "an error class under one that is not granted"


def class_in_place(page, node):
    parent = page.parent(node)
    if isinstance(parent, ast.Tuple):
        node, parent = parent, page.parent(parent)
    if isinstance(parent, ast.Call):
        return parent.func is node or (named(parent.func, ["isinstance"]) and node in parent.args[1:])
    if isinstance(parent, ast.Attribute):
        return parent.attr == "__init__"
    return isinstance(parent, (ast.ClassDef, ast.ExceptHandler, ast.Raise))


def handled(handler):
    """The names of the classes that a handler takes."""
    node = handler.type
    listed = node.elts if isinstance(node, ast.Tuple) else [node]
    return [one.id for one in listed if isinstance(one, ast.Name)]


def rule_19(book):
    own_double = book.methods & {"__eq__", "__len__", "__str__", "__repr__"}
    for page in book.pages:
        for node in page.of(ast.Raise):
            if not calls(node.exc, list(book.errors) + ERRORS):
                yield page, node, "an error that is not made on the spot"
            if node.cause is not None and not raised_from(page, node):
                yield page, node, "from something else than the handler's error or None"
        for node in page.of(ast.Try):
            for handler in node.handlers:
                names = handled(handler)
                narrow = [name for name in names if name in ("ValueError", "LookupError", "IndexError")]
                for name in names:
                    if name not in book.errors and name not in ("KeyError", "ZeroDivisionError", "StopIteration"):
                        if name not in narrow:
                            yield page, handler, f"except {name}"
                if narrow and not narrow_body(node.body, narrow, own_double):
                    yield page, handler, f"too much stands in the try of {narrow[0]}"


def raised_from(page, node):
    if isinstance(node.cause, ast.Constant):
        return node.cause.value is None
    names = [one.name for one in page.above(node) if isinstance(one, ast.ExceptHandler)]
    return named(node.cause, names)


def narrow_body(body, names, own_double):
    """Whether a try holds one statement, with just what its handler is granted for."""
    nodes = [one for node in body for one in ast.walk(node)]
    found = [one for one in nodes if isinstance(one, ast.Call)]
    wide = (ast.JoinedStr, ast.Slice, ast.Lambda, ast.Mult, ast.Pow, ast.Mod, ast.LShift, ast.RShift)
    if own_double:
        wide += (ast.Compare, ast.If, ast.While, ast.IfExp, ast.BoolOp, ast.Not)
    if len(body) != 1 or any(isinstance(one, wide) for one in nodes):
        return False
    if "IndexError" in names:
        return not found and any(isinstance(one, ast.Subscript) for one in nodes)
    granted = [one for one in found if calls(one, ["int", "str"]) or calls_method(one, ["index", "remove"])]
    return bool(found) and granted == found


def rule_20(book):
    for page in book.pages:
        for node in page.of(ast.Compare):
            sides = [node.left] + node.comparators
            for place, op in enumerate(node.ops):
                beside = [one for one in sides[place:place + 2] if isinstance(one, ast.Constant)
                          and (one.value is None or isinstance(one.value, bool))]
                if isinstance(op, (ast.Is, ast.IsNot)) and not beside:
                    yield page, node, "is beside something else than None, True, False"


def rule_21(book):
    for page in book.pages:
        for node in page.of(ast.AnnAssign):
            yield page, node, "an annotation"
        for node in page.of(ast.arg):
            if node.annotation:
                yield page, node, "an annotation"
        for node in page.of(ast.FunctionDef):
            if node.returns:
                yield page, node, "an annotation"


def rule_22(book):
    for page in book.pages:
        for node in page.of(ast.Call):
            if named(node.func, ["isinstance"]) and not asks_kind(book, node):
                yield page, node, "isinstance with something else than kinds"
            for keyword in node.keywords:
                if not keyword_granted(book, node, keyword):
                    yield page, node, f"the keyword {keyword.arg}"
        for node in page.of(ast.Name):
            if isinstance(node.ctx, ast.Load) and node.id in CALLED and not built_in_in_place(page, node):
                yield page, node, f"{node.id} is kept or handed on"


def asks_kind(book, node):
    if len(node.args) != 2:
        return False
    asked = node.args[1].elts if isinstance(node.args[1], ast.Tuple) else [node.args[1]]
    return all(named(one, KINDS + ERRORS + list(book.classes)) for one in asked)


def keyword_granted(book, node, keyword):
    if isinstance(node.func, ast.Attribute):
        return node.func.attr not in METHODS
    name = node.func.id if isinstance(node.func, ast.Name) else ""
    if name in ERRORS or name in book.errors:
        return False
    if name not in CALLED:
        return True
    if keyword.arg in ("reverse", "strict"):
        written = isinstance(keyword.value, ast.Constant) and isinstance(keyword.value.value, bool)
        return written and keyword.arg in KEYWORDS.get(name, [])
    return keyword.arg in KEYWORDS.get(name, [])


def built_in_in_place(page, node):
    parent = page.parent(node)
    if isinstance(parent, ast.keyword):
        return parent.arg == "key" and node.id in KEYS
    if isinstance(parent, ast.Tuple):
        node, parent = parent, page.parent(parent)
    if not isinstance(parent, ast.Call):
        return False
    return parent.func is node or (named(parent.func, ["isinstance"]) and node in parent.args[1:])


def rule_23(book):
    for page in book.pages:
        for node in page.of(ast.Call):
            if calls(node, WALKED) or calls_method(node, ["items", "keys", "values"]):
                if not walked_at_once(page, node):
                    yield page, node, "kept, not walked on the spot"
        for node in page.of(ast.For):
            names = [ast.unparse(one) for one in walked_by(node.iter)]
            for one in [inner for part in node.body for inner in ast.walk(part)]:
                if changed_by(one) in names:
                    yield page, one, "changes what the loop walks"


def walked_at_once(page, node):
    parent = page.parent(node)
    if isinstance(parent, (ast.For, ast.comprehension)):
        return parent.iter is node
    if calls(parent, WALKERS):
        return parent.args[0] is node
    if calls(parent, ["min", "max"]):
        return parent.args == [node]
    return (calls_method(parent, ["join"]) and isinstance(parent.func.value, ast.Constant)
            and parent.args == [node])


def walked_by(node):
    """What is walked where a loop walks a node: itself, or what stands in its call."""
    if calls(node, ["enumerate", "zip", "reversed"]):
        return [inner for one in node.args for inner in walked_by(one)]
    if calls_method(node, ["items", "keys", "values"]):
        return [node.func.value]
    return [node] if isinstance(node, (ast.Name, ast.Attribute, ast.Subscript)) else []


def changed_by(node):
    """The text of what a node changes in its place, or None."""
    if isinstance(node, ast.Subscript) and isinstance(node.ctx, ast.Store):
        return ast.unparse(node.value)
    if isinstance(node, ast.AugAssign):
        return ast.unparse(node.target)
    if calls_method(node, CHANGING):
        return ast.unparse(node.func.value)
    return None


def rule_24(book):
    for page in book.pages:
        for node in page.nodes:
            if is_set(node) and not set_in_place(page, node):
                yield page, node, "a set that is kept, walked or handed on"


def is_set(node):
    if isinstance(node, ast.BinOp) and isinstance(node.op, (ast.Sub, ast.BitAnd, ast.BitOr, ast.BitXor)):
        return is_set(node.left) or is_set(node.right)
    return isinstance(node, ast.Set) or calls(node, ["set", "frozenset"])


def set_in_place(page, node):
    parent = page.parent(node)
    if isinstance(parent, ast.BinOp) and is_set(parent):
        return is_set(parent.left) and is_set(parent.right) and set_in_place(page, parent)
    if isinstance(parent, ast.Compare) and len(parent.ops) == 1:
        if isinstance(parent.ops[0], (ast.In, ast.NotIn)):
            return parent.comparators[0] is node
        same = isinstance(parent.ops[0], (ast.Eq, ast.NotEq))
        return same and is_set(parent.left) and is_set(parent.comparators[0])
    return calls(parent, ["sorted", "len"]) and parent.args == [node] and not parent.keywords


def rule_25(book):
    for page in book.pages:
        for node in page.of(ast.Attribute):
            if isinstance(node.ctx, ast.Store) or node.attr == "__init__":
                continue
            parent = page.parent(node)
            if isinstance(parent, ast.Call) and parent.func is node:
                if node.attr not in METHODS and node.attr not in book.methods | book.values:
                    yield page, node, f"the method {node.attr}"
            elif node.attr in book.methods | set(METHODS) and node.attr not in book.values:
                if not (isinstance(parent, ast.keyword) and parent.arg == "key"):
                    yield page, node, f"the method {node.attr} is handed on"
            elif node.attr not in book.values:
                yield page, node, f"the value {node.attr}"


def rule_26(book):
    for page in book.pages:
        for node in page.of(ast.ClassDef):
            for one in node.body:
                if isinstance(one, ast.FunctionDef) and one.name in TAKEN:
                    if one.name not in METHODS + DOUBLE + ["add", "discard"]:
                        yield page, one, f"a method called {one.name}"
        for node in page.of(ast.Attribute):
            if isinstance(node.ctx, ast.Store) and (node.attr in TAKEN or node.attr == "args"):
                if node.attr not in VALUES:
                    yield page, node, f"a value called {node.attr}"


def rule_27(book):
    for page in book.pages:
        for node in page.of(ast.BinOp, ast.AugAssign):
            if isinstance(node.op, ast.Pow):
                power = node.right if isinstance(node, ast.BinOp) else node.value
                if not (is_whole(power) and 0 <= power.value <= 64):
                    yield page, node, "an exponent that is not written, or above 64"
        for node in page.of(ast.Constant):
            if isinstance(node.value, str) and "%" in node.value:
                yield page, node, "the percent sign in a text"
            if is_whole(node) and node.value >= 10 ** 900:
                yield page, node, "a number of more than 900 digits"
        for node in page.of(ast.Name):
            if node.id == "chr":
                yield page, node, "chr"
        for token in tokenize.generate_tokens(io.StringIO(page.text).readline):
            if tokenize.tok_name[token.type] in ("STRING", "FSTRING_MIDDLE"):
                for sign in re.findall(r"\\(.)", token.string, re.DOTALL):
                    if sign not in "nt\\'\"":
                        yield page, token.start[0], "an escape that is not granted"


def rule_28(book):
    for page in book.pages:
        for node in page.of(ast.ClassDef):
            for one in node.body:
                if isinstance(one, ast.FunctionDef) and one.name in DOUBLE:
                    for words in double_faults(one):
                        yield page, one, words


def double_faults(node):
    returned = [one.value for one in ast.walk(node) if isinstance(one, ast.Return)]
    if node.name == "__init__":
        if any(one is not None for one in returned):
            yield "__init__ gives something back"
        return
    for one in ast.walk(node):
        stored = isinstance(one, (ast.Attribute, ast.Subscript)) and isinstance(one.ctx, ast.Store)
        if stored or isinstance(one, ast.AugAssign) or calls_method(one, CHANGING):
            yield f"{node.name} stores or changes"
    for one in returned:
        if node.name == "__len__" and not (calls(one, ["len"]) or is_whole(one)):
            yield "__len__ gives back something else than len"
        if node.name in ("__repr__", "__str__"):
            text = isinstance(one, ast.JoinedStr) or (isinstance(one, ast.Constant) and isinstance(one.value, str))
            joined = calls_method(one, ["join"]) and isinstance(one.func.value, ast.Constant)
            if not (text or joined or calls(one, ["str", "repr"])):
                yield f"{node.name} gives back something else than a text"


RULES = [
    rule_1, rule_2, rule_3, rule_4, rule_5, rule_6, rule_7, rule_8, rule_9, rule_10, rule_11, rule_12, rule_13,
    rule_14, rule_15, rule_16, rule_17, rule_18, rule_19, rule_20, rule_21, rule_22, rule_23, rule_24, rule_25,
    rule_26, rule_27, rule_28,
]


def faults(files):
    """What breaks the rules, as texts that begin with the rule's name."""
    found = []
    pages = []
    for path, content in sorted(files.items()):
        try:
            text = content.decode("utf-8")
        except UnicodeDecodeError:
            found.append(f"L1 {path}: no UTF-8")
            continue
        if path.endswith(".py"):
            pages.append(Page(path, text))
        else:
            found.append(f"L1 {path}: no file of Python")
    book = Book(pages)
    for number, rule in enumerate(RULES, start=1):
        for page, where, words in rule(book):
            line = where if isinstance(where, int) else where.lineno
            found.append(f"L{number} {page.path}:{line} {words}")
    return found
