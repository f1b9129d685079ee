"""Looks over the files of a package for breaches of the rules of LANGUAGE.md that a script can see.

    python3 tools/rules.py FOLDER

prints a line for each breach, and ends with 1 where there is one.
"""

import ast
import builtins
import io
import os
import re
import sys
import tokenize

BUILTINS = set(
    "len range enumerate zip min max sum abs sorted reversed int str bool bytes list tuple dict set frozenset isinstance ord "
    "repr any all divmod iter next map super property staticmethod classmethod object print NotImplemented Exception ValueError "
    "TypeError KeyError IndexError LookupError ZeroDivisionError ArithmeticError OverflowError RuntimeError NotImplementedError "
    "AttributeError StopIteration".split())
ALL_BUILTINS = {name for name in dir(builtins) if not name.startswith("_")}
METHODS = set(
    "append clear copy count endswith extend find get index insert isalnum isalpha isdigit islower isspace isupper items join keys "
    "ljust lower lstrip partition pop remove replace reverse rfind rjust rpartition rsplit rstrip setdefault split splitlines "
    "startswith strip update upper values zfill bit_length title capitalize swapcase casefold center expandtabs removeprefix "
    "removesuffix rindex isascii isdecimal isnumeric istitle isidentifier isprintable translate sort add discard encode "
    "decode hex".split())
OWN_AS_WELL = METHODS - set("sort encode decode hex title".split())
OF_VALUES = set().union(*[set(dir(kind)) for kind in (str, int, list, dict, set, bytes, tuple)])
ATTRIBUTES_AS_WELL = set("count index title find get join lower upper split strip copy add".split())
CHANGING = set("append clear extend insert pop remove reverse setdefault update sort add discard".split())
DUNDERS = set(
    "init eq repr str len enter exit call iter lt le gt ge ne add sub mul floordiv mod pow and or xor lshift rshift radd rsub "
    "rmul rfloordiv rmod rand ror rxor rlshift rrshift iadd isub imul ifloordiv imod ipow iand ior ixor ilshift irshift neg pos "
    "invert abs bool contains getitem setitem".split())
DECORATORS = {"property", "staticmethod", "classmethod"}
LIBRARY = {
    "heapq": {"heappush", "heappop", "heapify", "heapreplace", "heappushpop"},
    "math": {"gcd", "lcm", "isqrt", "comb", "perm", "factorial"}, "itertools": {"product", "combinations", "permutations"},
}
CAUGHT = {"KeyError", "ZeroDivisionError", "StopIteration", "ValueError", "LookupError", "IndexError"}
NOWHERE = set("register mro elements open input law version_info with_traceback add_note format format_map".split())
NO_NAMES = set(
    "attrgetter breakpoint builtins compile copyright credits delattr dir eval exec exit gc getattr globals hasattr help id "
    "importlib license locals methodcaller os quit setattr type vars".split())
NO_WORDS = set(
    "type typing typing_extensions enum Enum IntEnum StrEnum Flag IntFlag Generic Protocol ABC ABCMeta namedtuple NamedTuple "
    "TypedDict TYPE_CHECKING abstractmethod".split())
NO_PARTS = ("dataclass", "overload", "contextmanager")
NO_FILES = NOWHERE | NO_NAMES | set("test tests testing site conftest sitecustomize usercustomize sys".split())
STATEMENTS = (
    ast.Assign, ast.AugAssign, ast.AnnAssign, ast.If, ast.While, ast.For, ast.Return, ast.Break, ast.Continue, ast.Pass, ast.Raise,
    ast.Assert, ast.Delete, ast.Nonlocal, ast.Match, ast.With, ast.Try, ast.Expr, ast.FunctionDef, ast.ClassDef, ast.ImportFrom,
    ast.Import,
)
TAKES_GENERATOR = {"list", "tuple", "dict", "sorted", "sum", "min", "max", "any", "all"}
SCOPES = (ast.FunctionDef, ast.Lambda)
# Since Python 3.12 an f-string comes in parts.
STRINGS = (tokenize.STRING, getattr(tokenize, "FSTRING_MIDDLE", tokenize.STRING))


def is_plain(node):
    """Whether the expression is of plain values alone, as they may stand at module level."""
    if isinstance(node, ast.Dict):
        return all(key is not None and is_plain(key) for key in node.keys) and all(is_plain(part) for part in node.values)
    if isinstance(node, (ast.List, ast.Tuple)):
        return all(is_plain(part) for part in node.elts)
    if isinstance(node, ast.BinOp):
        return is_plain(node.left) and is_plain(node.right)
    if isinstance(node, ast.UnaryOp):
        return isinstance(node.op, ast.USub) and is_plain(node.operand)
    return isinstance(node, (ast.Constant, ast.Name))


def is_docstring(node):
    return isinstance(node, ast.Expr) and isinstance(node.value, ast.Constant) and isinstance(node.value.value, str)


def bindings_of(node):
    """(name, node) of each name that a function's own rows bind, its parameters too; not of functions within it."""
    found = []
    if isinstance(node, SCOPES):
        given = node.args
        for arg in (*given.posonlyargs, *given.args, *given.kwonlyargs, given.vararg, given.kwarg):
            if arg is not None:
                found.append((arg.arg, arg))
    body = node.body if isinstance(node.body, list) else [node.body]
    waiting = list(body)
    while waiting:
        part = waiting.pop()
        if isinstance(part, (ast.FunctionDef, ast.ClassDef)):
            found.append((part.name, part))
            continue
        if isinstance(part, ast.Lambda):
            continue
        if isinstance(part, ast.Name) and isinstance(part.ctx, (ast.Store, ast.Del)):
            found.append((part.id, part))
        if isinstance(part, (ast.ExceptHandler, ast.MatchAs, ast.MatchStar)) and part.name:
            found.append((part.name, part))
        if isinstance(part, (ast.Import, ast.ImportFrom)):
            found.extend((alias.asname or alias.name, part) for alias in part.names)
        waiting.extend(ast.iter_child_nodes(part))
    return found


class File:
    """One file of the package: its text, its tree, and what it binds."""

    def __init__(self, folder, path):
        self.path = path
        with open(os.path.join(folder, path), "rb") as held:
            self.data = held.read()
        self.text = self.data.decode("utf-8", "replace")
        self.tree = ast.parse(self.text)
        package = os.path.basename(os.path.normpath(folder))
        parts = [package, *path[:-len(".py")].split("/")]
        self.module = ".".join(parts[:-1] if parts[-1] == "__init__" else parts)
        self.nodes = list(ast.walk(self.tree))
        self.top = bindings_of(self.tree)
        self.functions = [node for node in self.nodes if isinstance(node, SCOPES)]
        self.classes = {node.name for node in self.tree.body if isinstance(node, ast.ClassDef)}
        self.imported = [node for node in self.nodes if isinstance(node, ast.ImportFrom)]


class Rules:
    """All files of a package, and the breaches found in them."""

    def __init__(self, folder):
        self.folder = folder
        self.found = []
        self.package = os.path.basename(os.path.normpath(folder))
        self.files = [File(folder, path) for path in self.paths()]
        self.by_module = {file.module: file for file in self.files}
        nodes = [node for file in self.files for node in file.nodes]
        classes = [node for node in nodes if isinstance(node, ast.ClassDef)]
        self.methods = {part.name for node in classes for part in node.body if isinstance(part, ast.FunctionDef)}
        self.classes = {node.name for node in classes}
        self.errors = self.error_classes(classes)
        self.attributes = {
            node.attr for node in nodes if isinstance(node, ast.Attribute) and isinstance(node.ctx, ast.Store)}
        self.compares = bool(self.methods & {"__eq__"})

    def paths(self):
        found = []
        for folder, folders, files in sorted(os.walk(self.folder)):
            folders[:] = sorted(name for name in folders if name != "__pycache__")
            at = os.path.relpath(folder, self.folder)
            if "__init__.py" not in files:
                self.say(at, 0, "L14", "no __init__.py in this folder")
            for name in sorted(files):
                path = os.path.normpath(os.path.join(at, name))
                stem = name[:-len(".py")]
                if not re.fullmatch(r"(__init__|__main__|[a-z_][a-z0-9_]*)\.py", name):
                    self.say(path, 0, "L1", "not a .py file of a plain name")
                    continue
                if stem in NO_FILES or stem in LIBRARY or stem in ALL_BUILTINS or re.match("(law|test)_", stem):
                    self.say(path, 0, "L14", "a file may not be called so")
                found.append(path)
        if len(found) > 100:
            self.say(".", 0, "L14", "more than 100 files")
        return found

    def error_classes(self, classes):
        """The names of all own classes that come from an error of Python's."""
        errors = {name for name in BUILTINS if name.endswith("Error") or name == "Exception"}
        while True:
            more = {node.name for node in classes if any(getattr(base, "id", None) in errors for base in node.bases)} - errors
            if not more:
                return errors & self.classes
            errors |= more

    def say(self, path, line, rule, text):
        self.found.append(f"{self.package}/{path}:{line}: {rule} {text}")

    def check(self):
        self.check_cycles()
        for file in self.files:
            self.check_text(file)
            self.check_words(file)
            self.check_imports(file)
            self.check_module_level(file)
            self.check_names(file)
            self.check_state(file)
            for node in file.nodes:
                self.check_node(file, node)
        return self.found

    def check_text(self, file):
        for k, line in enumerate(file.text.split("\n"), start=1):
            if len(line) > 120:
                self.say(file.path, k, "L10", "a line of more than 120 characters")
            if any(not " " <= sign <= "~" for sign in line):
                self.say(file.path, k, "L14", "a character that is none from the blank to ~")
        if len(file.text.splitlines()) > 399:
            self.say(file.path, 399, "L10", "a file of more than 399 lines")

    def check_words(self, file):
        docstrings = {
            node.body[0].lineno for node in file.nodes
            if isinstance(node, (ast.Module, ast.ClassDef, ast.FunctionDef)) and node.body and is_docstring(node.body[0])}
        for part in tokenize.generate_tokens(io.StringIO(file.text).readline):
            line = part.start[0]
            if re.search(r"\b(_wall|_WallAttr)\b", part.string):
                self.say(file.path, line, "L12", "a word that may stand nowhere")
            if part.type == tokenize.COMMENT or part.type == tokenize.STRING and line in docstrings:
                continue
            words = set(re.findall(r"\w+", part.string))
            if part.type in STRINGS:
                words.discard("type")
                if re.search(r"\\[^nt\\'\"\n]", part.string) and "b" not in part.string[:2]:
                    self.say(file.path, line, "L27", "an escape that may not stand")
            if words & NO_WORDS or any(word in part.string for word in NO_PARTS):
                self.say(file.path, line, "L17", f"the word {part.string} may not stand here")

    def check_imports(self, file):
        ahead = True
        for node in file.tree.body:
            is_import = isinstance(node, (ast.Import, ast.ImportFrom))
            if is_import and not ahead:
                self.say(file.path, node.lineno, "L2", "an import that is not at the top")
            ahead = ahead and (is_import or is_docstring(node))
        for node in file.nodes:
            if isinstance(node, ast.Import) and not (file.path == "__main__.py" and [a.name for a in node.names] == ["sys"]):
                self.say(file.path, node.lineno, "L16", "import without from")
        for node in file.imported:
            self.check_import_from(file, node)

    def check_import_from(self, file, node):
        names = {alias.name for alias in node.names}
        if node not in file.tree.body:
            self.say(file.path, node.lineno, "L2", "an import within something")
        elif node.level or "*" in names:
            self.say(file.path, node.lineno, "L2", "a leading dot or a star")
        elif node.module == "__future__":
            if names != {"annotations"}:
                self.say(file.path, node.lineno, "L2", "from __future__ only annotations")
        elif node.module in LIBRARY:
            if not names <= LIBRARY[node.module] or any(alias.asname for alias in node.names):
                self.say(file.path, node.lineno, "L2", "a name of the library that may not be imported so")
        elif node.module not in self.by_module or node.module.endswith("__main__"):
            self.say(file.path, node.lineno, "L2", f"{node.module} is no module of the package")
        else:
            other = self.by_module[node.module]
            own = {name for name, bound in other.top if not isinstance(bound, ast.ImportFrom)}
            for name in sorted(names - own):
                self.say(file.path, node.lineno, "L16", f"{name} is not defined in {node.module}")

    def check_cycles(self):
        needs = {file.module: {node.module for node in file.imported} & set(self.by_module) for file in self.files}
        for start in sorted(needs):
            seen, waiting = set(), list(needs[start])
            while waiting:
                module = waiting.pop()
                if module not in seen:
                    seen.add(module)
                    waiting.extend(needs[module])
            if start in seen:
                self.say(self.by_module[start].path, 0, "L16", "files that import from each other")

    def check_module_level(self, file):
        seen = set()
        for name, node in file.top:
            if name in seen:
                self.say(file.path, node.lineno, "L15", f"{name} is bound twice at module level")
            seen.add(name)
        for k, node in enumerate(file.tree.body):
            if isinstance(node, (ast.Import, ast.ImportFrom, ast.FunctionDef, ast.ClassDef)) or k == 0 and is_docstring(node):
                continue
            if isinstance(node, ast.If) and file.path == "__main__.py":
                continue
            target = node.targets[0] if isinstance(node, ast.Assign) and len(node.targets) == 1 else None
            if not isinstance(target, ast.Name) or not is_plain(node.value):
                self.say(file.path, node.lineno, "L3", "not a docstring, import, function, class or plain value")
            elif any(isinstance(part, (ast.List, ast.Dict)) for part in list(ast.walk(node.value)) if part is not node.value):
                self.say(file.path, node.lineno, "L15", "a list or dict within what stands at module level")

    def check_names(self, file):
        outer = {name for name, node in file.top if isinstance(node, (ast.ImportFrom, ast.ClassDef))}
        known = {name for name, _ in file.top}
        every = [(name, node) for scope in file.functions for name, node in bindings_of(scope)]
        for name, node in file.top + every:
            self.check_name(file, name, node)
        for name, node in every:
            known.add(name)
            if name in outer:
                self.say(file.path, node.lineno, "L15", f"{name} is the name of a class or an import of this file")
        for node in file.nodes:
            if isinstance(node, ast.Name) and isinstance(node.ctx, ast.Load) and node.id not in known:
                allowed = node.id in BUILTINS or file.path == "__main__.py" and node.id in ("__name__", "sys")
                if not allowed or node.id == "print" and file.path != "__main__.py":
                    self.say(file.path, node.lineno, "L8", f"{node.id} is no name of the file and no allowed builtin")
            if isinstance(node, ast.Name) and isinstance(node.ctx, ast.Load) and node.id == "_":
                self.say(file.path, node.lineno, "L12", "_ is read")

    def check_name(self, file, name, node):
        if not re.fullmatch(r"_?[A-Za-z][A-Za-z0-9_]*|_", name) and name not in ("__all__", "__version__"):
            self.say(file.path, node.lineno, "L12", f"the name {name}")
        if name in ALL_BUILTINS or name in BUILTINS:
            self.say(file.path, node.lineno, "L15", f"{name} is the name of a builtin")
        if name in NOWHERE or name in NO_NAMES:
            self.say(file.path, node.lineno, "L17", f"the name {name}")

    def check_state(self, file):
        """Lists and dicts of the module level are only read."""
        kept = {
            node.targets[0].id for node in file.tree.body
            if isinstance(node, ast.Assign) and isinstance(node.targets[0], ast.Name) and isinstance(node.value, (ast.List, ast.Dict))}
        for node in file.nodes:
            if isinstance(node, ast.Subscript) and not isinstance(node.ctx, ast.Load):
                if isinstance(node.value, ast.Name) and node.value.id in kept:
                    self.say(file.path, node.lineno, "L15", f"{node.value.id} is changed")
            if isinstance(node, ast.Call) and isinstance(node.func, ast.Attribute) and node.func.attr in CHANGING:
                if isinstance(node.func.value, ast.Name) and node.func.value.id in kept:
                    self.say(file.path, node.lineno, "L15", f"{node.func.value.id} is changed")
            if isinstance(node, (ast.Return, ast.Assign)) and isinstance(node.value, ast.Name) and node.value.id in kept:
                self.say(file.path, node.lineno, "L15", f"{node.value.id} is handed on, not a copy of it")

    def check_node(self, file, node):
        line = getattr(node, "lineno", 0)
        if isinstance(node, ast.stmt) and not isinstance(node, STATEMENTS):
            self.say(file.path, line, "L6", f"the statement {node.__class__.__name__}")
        for kind, check in CHECKS:
            if isinstance(node, kind):
                for rule, text in check(self, file, node):
                    self.say(file.path, line, rule, text)


def check_function(rules, file, node):
    if node.end_lineno - node.lineno + 1 > 40:
        yield "L10", f"{node.name} has more than 40 lines"
    for part in node.decorator_list:
        if not (isinstance(part, ast.Name) and part.id in DECORATORS or isinstance(part, ast.Attribute) and part.attr == "setter"):
            yield "L4", f"a decorator over {node.name}"
    for part in (*node.args.defaults, *node.args.kw_defaults):
        if part is not None and (not is_plain(part) or isinstance(part, (ast.List, ast.Dict))):
            yield "L4", f"a default value of {node.name} that is not plain"
    if node.name == "__init__":
        if any(isinstance(part, ast.Return) and part.value is not None for part in ast.walk(node)):
            yield "L28", "__init__ returns something"


def check_class(rules, file, node):
    if node not in file.tree.body:
        yield "L15", f"the class {node.name} is not at module level"
    if node.decorator_list or node.keywords:
        yield "L5", f"a decorator or a keyword of the class {node.name}"
    names = [part.name for part in node.body if isinstance(part, ast.FunctionDef) and not part.decorator_list]
    for name in names:
        if names.count(name) > 1:
            yield "L18", f"{name} is defined twice"
        if name.startswith("__") and name.strip("_") not in DUNDERS:
            yield "L5", f"the method {name}"
        elif not name.startswith("__") and name in OF_VALUES - OWN_AS_WELL or name in NOWHERE | NO_NAMES:
            yield "L26", f"a method may not be called {name}"
        if name in rules.attributes and any(
                isinstance(part, ast.Attribute) and part.attr == name and isinstance(part.ctx, ast.Store) for part in ast.walk(node)):
            yield "L18", f"{name} is a method and an attribute"
    for k, part in enumerate(node.body):
        if not isinstance(part, (ast.FunctionDef, ast.Assign, ast.Pass)) and not (k == 0 and is_docstring(part)):
            yield "L5", f"a class of more than methods and class values: {node.name}"


def check_attribute(rules, file, node):
    name = node.attr
    if name in NOWHERE or name in ("__dict__", "__doc__", "args") or re.match("(f|tb|co|gi|cr)_", name):
        yield "L17", f"the attribute {name}"
    if name.startswith("__") and name != "__init__" and name not in ("__class__", "__name__"):
        yield "L8", f"the attribute {name}"
    if isinstance(node.ctx, ast.Store) and name in OF_VALUES - ATTRIBUTES_AS_WELL:
        yield "L26", f"an attribute may not be called {name}"


def check_call(rules, file, node):
    called = node.func
    if isinstance(called, ast.Attribute):
        if called.attr not in METHODS and called.attr not in rules.methods:
            yield "L25", f"the method {called.attr}"
        if called.attr == "sort" and rules.methods & {"__eq__", "__len__"}:
            yield "L25", "sort beside __eq__ or __len__"
        if called.attr in METHODS and called.attr not in rules.methods | {"sort"} and node.keywords:
            yield "L25", f"a keyword of {called.attr}"
    elif isinstance(called, ast.Name) and called.id in BUILTINS:
        allowed = {"sorted": {"key", "reverse"}, "min": {"key", "default"}, "max": {"key", "default"}, "sum": {"start"},
                   "enumerate": {"start"}, "zip": {"strict"}}.get(called.id, set())
        if called.id != "print" and not {keyword.arg for keyword in node.keywords} <= allowed:
            yield "L22", f"a keyword of {called.id}"
    elif not isinstance(called, (ast.Name, ast.Call, ast.Subscript)):
        yield "L7", "a call of what is no name"
    for part in node.args:
        if isinstance(part, ast.GeneratorExp):
            if isinstance(called, ast.Attribute) and called.attr == "join":
                continue
            name = getattr(called, "id", None)
            if name not in TAKES_GENERATOR or rules.compares and name not in ("list", "tuple", "dict"):
                yield "L7", "a generator expression that may not stand here"
    if isinstance(called, ast.Name) and called.id == "isinstance" and isinstance(node.args[0], ast.Name):
        if node.args[0].id in rules.classes:
            yield "L18", "a class as the first thing of isinstance"


def check_raise(rules, file, node):
    called = node.exc
    if called is None:
        return
    if isinstance(called, ast.Call) and isinstance(called.func, ast.Name):
        if called.func.id in rules.errors or called.func.id in BUILTINS and called.func.id not in rules.classes:
            return
    yield "L19", "raise of what is no error made on the spot"


def check_handler(rules, file, node):
    kinds = node.type.elts if isinstance(node.type, ast.Tuple) else [node.type]
    for kind in kinds:
        if not isinstance(kind, ast.Name) or kind.id not in CAUGHT | rules.errors or not kinds:
            yield "L19", "an error that may not be caught"


def check_constant(rules, file, node):
    value = node.value
    if isinstance(value, (float, complex)) or value is Ellipsis:
        yield "L7", "a number with a point"
    if isinstance(value, str) and "%" in value:
        yield "L27", "the character for hundredths in a string"
    if isinstance(value, str) and (value.endswith("._") or value.endswith(".__")):
        yield "L27", "a string that ends in ._ or .__"
    if isinstance(value, str) and re.fullmatch("__.*__", value, re.S) and value != "__main__":
        yield "L27", "a string that begins and ends with two underscores"


def check_operation(rules, file, node):
    if isinstance(node.op, (ast.Div, ast.MatMult)):
        yield "L7", "a division that gives no int"
    if isinstance(node, ast.BinOp) and isinstance(node.op, ast.Pow) and isinstance(node.left, ast.Constant):
        if node.left.value == 2 and not (isinstance(node.right, ast.Constant) and 0 <= node.right.value <= 64):
            yield "L27", "2 ** n"


def check_compare(rules, file, node):
    parts = [node.left, *node.comparators]
    for k, sign in enumerate(node.ops):
        sides = parts[k:k + 2]
        singles = [side for side in sides if isinstance(side, ast.Constant) and (side.value is None or isinstance(side.value, bool))]
        named = [side for side in sides if isinstance(side, ast.Name) and side.id == "self"]
        if isinstance(sign, (ast.Is, ast.IsNot)) and not singles and not named:
            yield "L20", "is beside other things than None, True and False"


def check_loop(rules, file, node):
    gone_over = node.iter
    called = gone_over.func if isinstance(gone_over, ast.Call) else None
    if isinstance(gone_over, (ast.Set, ast.SetComp)) or isinstance(called, ast.Name) and called.id in ("set", "frozenset"):
        yield "L24", "a set that is iterated"
    if isinstance(node, ast.comprehension) and node.is_async:
        yield "L6", "async"


def check_comprehension(rules, file, node):
    if not any(node in list(ast.walk(scope)) for scope in file.functions):
        yield "L7", "a comprehension outside of functions"


CHECKS = (
    (ast.FunctionDef, check_function), (ast.ClassDef, check_class), (ast.Attribute, check_attribute), (ast.Call, check_call),
    (ast.Raise, check_raise), (ast.ExceptHandler, check_handler), (ast.Constant, check_constant),
    ((ast.BinOp, ast.AugAssign), check_operation), (ast.Compare, check_compare), ((ast.For, ast.comprehension), check_loop),
    ((ast.ListComp, ast.DictComp, ast.SetComp, ast.GeneratorExp), check_comprehension),
)


def breaches(folder):
    """A line for each breach in the package that this folder holds."""
    return Rules(folder).check()


if __name__ == "__main__":
    lines = breaches(sys.argv[1])
    for row in lines:
        print(row)
    print(f"rules: {len(lines)} breaches in {sys.argv[1]}")
    sys.exit(1 if lines else 0)
