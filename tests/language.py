"""Checks files of the package against the rules of ../shared/LANGUAGE.md that can be told from the code.

Where the rules allow more than the package uses, this is narrower: it names the rule that comes nearest.
"""

import ast
import builtins
import re

BUILTINS = set(
    "len range enumerate zip min max sum abs sorted reversed int str bool list tuple dict set isinstance ord "
    "repr any all divmod ValueError KeyError".split())
METHODS = set(
    "append clear copy count endswith extend find get index insert isalnum isalpha isdigit islower isspace isupper "
    "items join keys ljust lower lstrip partition pop remove replace reverse rfind rjust rpartition rsplit rstrip "
    "setdefault split splitlines startswith strip update upper values zfill bit_length removeprefix removesuffix".split())
CHANGING = set("append extend insert pop remove clear update setdefault reverse".split())
# A doctest that ran in the same process leaves a `_` behind among the builtins.
TAKEN = set(dir(builtins)) - {"_"}
NOT_USED = set("register mro elements open input law version_info with_traceback add_note attrgetter breakpoint compile "
               "delattr dir eval exec exit gc globals help id importlib license locals os quit super type vars".split())
BARRED = re.compile(r"\b(type|typing|enum|Enum|Flag|Generic|Protocol|ABC|namedtuple|abstractmethod)\b|dataclass|overload")
VIEWS = ("range", "zip", "enumerate", "reversed")
ITERATING = ("list", "tuple", "dict", "sorted", "sum", "min", "max", "any", "all", "enumerate", "zip")
EXPRESSIONS = (ast.GeneratorExp, ast.Yield, ast.YieldFrom, ast.Await, ast.NamedExpr, ast.Starred, ast.Set)
STATEMENTS = (ast.Assign, ast.AugAssign, ast.If, ast.While, ast.For, ast.Return, ast.Break, ast.Continue, ast.Pass,
              ast.Raise, ast.Try, ast.Expr, ast.FunctionDef, ast.Delete)
DUNDERS = ("__init__", "__eq__")
COMPREHENSIONS = (ast.ListComp, ast.DictComp, ast.SetComp)


def name_of(call):
    """Return the bare name that a call calls, None if it calls something else."""
    return call.func.id if isinstance(call, ast.Call) and isinstance(call.func, ast.Name) else None


def parents_of(tree):
    return {child: node for node in ast.walk(tree) for child in ast.iter_child_nodes(node)}


def targets(node):
    """Return the names that a target assigns."""
    return [part.id for part in ast.walk(node) if isinstance(part, ast.Name) and isinstance(part.ctx, ast.Store)]


class Checker:
    """Gathers what is wrong in one file; `defined` tells the names of each file, `methods` the package's own ones."""

    def __init__(self, text, package, defined, methods):
        self.text = text
        self.package = package
        self.defined = defined
        self.methods = methods
        self.tree = ast.parse(text)
        self.parents = parents_of(self.tree)
        self.found = []

    def bad(self, rule, node, why):
        self.found.append(f"{rule} line {getattr(node, 'lineno', node)}: {why}")

    def check(self):
        self.check_text()
        self.check_module()
        for node in ast.walk(self.tree):
            self.check_node(node)
            if isinstance(node, ast.FunctionDef):
                self.check_function(node)
            if isinstance(node, ast.ClassDef):
                self.check_class(node)
        return self.found

    def check_text(self):
        rows = self.text.split("\n")
        if len(rows) > 400:
            self.bad("L10", len(rows), "too many lines")
        for at, row in enumerate(rows, 1):
            if len(row) > 120:
                self.bad("L10", at, "line too long")
            if any(not " " <= sign <= "~" for sign in row):
                self.bad("L14", at, "sign")
            if "_wall" in row or "_WallAttr" in row:
                self.bad("L12", at, "word")
            if any(sign not in "nt\\'\"" for sign in re.findall(r"\\(.)", row)):
                self.bad("L27", at, "escape")

    def check_module(self):
        bound = []
        for at, node in enumerate(self.tree.body):
            if isinstance(node, ast.ImportFrom):
                self.check_import(node)
                bound.extend(alias.name for alias in node.names)
            elif isinstance(node, ast.Import):
                self.bad("L2", node, "import")
            elif isinstance(node, (ast.FunctionDef, ast.ClassDef)):
                bound.append(node.name)
            elif isinstance(node, ast.Assign) and len(node.targets) == 1 and isinstance(node.targets[0], ast.Name):
                bound.append(node.targets[0].id)
                self.check_plain(node.value, bound)
            elif at or not (isinstance(node, ast.Expr) and isinstance(node.value, ast.Constant)):
                self.bad("L3", node, "statement at module level")
        for name in bound:
            if bound.count(name) > 1:
                self.bad("L15", 1, f"{name} is bound twice")
        self.bound = bound
        self.imported = [alias.name for node in self.tree.body if isinstance(node, ast.ImportFrom) for alias in node.names]
        self.classes = [node.name for node in self.tree.body if isinstance(node, ast.ClassDef)]
        used = {node.id for node in ast.walk(self.tree) if isinstance(node, ast.Name)}
        for name in self.imported:
            if name not in used:
                self.bad("L2", 1, f"{name} is not used")

    def check_import(self, node):
        word, _, file = (node.module or "").partition(".")
        if node.level or word != self.package or file not in self.defined:
            self.bad("L2", node, "import")
            return
        for alias in node.names:
            if alias.asname or alias.name not in self.defined[file]:
                self.bad("L16", node, f"{alias.name} is not defined in {file}")

    def check_plain(self, value, bound):
        for node in ast.walk(value):
            if isinstance(node, ast.Name) and node.id not in bound[:-1]:
                self.bad("L3", node, "value of a name below")
            if not isinstance(node, (ast.Constant, ast.Tuple, ast.List, ast.Dict, ast.Name, ast.Load, ast.UnaryOp, ast.USub)):
                self.bad("L3", node, "value at module level")

    def check_node(self, node):
        if isinstance(node, ast.stmt) and not isinstance(node, STATEMENTS + (ast.ImportFrom, ast.ClassDef)):
            self.bad("L6", node, "statement")
        if isinstance(node, EXPRESSIONS) or isinstance(node, (ast.Div, ast.MatMult)):
            self.bad("L7", node, "expression")
        if isinstance(node, ast.Constant):
            self.check_constant(node)
        if isinstance(node, ast.Compare):
            for sign, side in zip(node.ops, node.comparators):
                if isinstance(sign, (ast.Is, ast.IsNot)) and not (
                        isinstance(side, ast.Constant) and side.value in (None, True, False)):
                    self.bad("L20", node, "is")
        if isinstance(node, ast.Call):
            self.check_call(node)
        if isinstance(node, ast.SetComp) or name_of(node) == "set":
            self.check_set(node)
        if isinstance(node, ast.For):
            self.check_loop(node)
        if isinstance(node, ast.Raise) and node.exc is not None and name_of(node.exc) is None:
            self.bad("L19", node, "raise")
        if isinstance(node, ast.ExceptHandler) and not isinstance(node.type, ast.Name):
            self.bad("L19", node, "except")
        if isinstance(node, ast.ExceptHandler) and getattr(node.type, "id", "") in TAKEN:
            self.bad("L19", node, "except of Python's own error")
        if isinstance(node, (ast.Name, ast.Attribute, ast.arg)):
            word = {ast.Name: "id", ast.Attribute: "attr", ast.arg: "arg"}[type(node)]
            if getattr(node, word) in NOT_USED:
                self.bad("L17", node, getattr(node, word))

    def check_constant(self, node):
        if isinstance(node.value, (float, complex, bytes)) or node.value is ...:
            self.bad("L7", node, "constant")
        if isinstance(node.value, str) and not isinstance(self.parents.get(node), ast.Expr):
            if "%" in node.value:
                self.bad("L27", node, "sign in a string")
            if BARRED.search(node.value) or re.fullmatch(r"__.*__", node.value) or node.value.endswith(("._", ".__")):
                self.bad("L17", node, "word in a string")

    def check_call(self, node):
        own = [name for names in self.defined.values() for name in names]
        if isinstance(node.func, ast.Attribute):
            word = node.func.attr
            if word not in METHODS and word not in self.methods and word != "__init__":
                self.bad("L25", node, f"method {word}")
            if word in METHODS and node.keywords:
                self.bad("L25", node, "keyword")
            if word in ("items", "keys", "values"):
                self.check_view(node)
        elif name_of(node) in VIEWS:
            self.check_view(node)
        elif not isinstance(node.func, ast.Name):
            self.bad("L7", node, "call of what is no name")
        for keyword in node.keywords:
            if name_of(node) not in ("sorted", "min", "max", "sum", "enumerate", "zip") and name_of(node) not in own:
                self.bad("L22", node, f"keyword {keyword.arg}")

    def check_view(self, node):
        parent = self.parents[node]
        iterated = isinstance(parent, (ast.For, ast.comprehension)) and parent.iter is node
        if not iterated and not (name_of(parent) in ITERATING and parent.args[0] is node):
            self.bad("L23", node, "view that is not iterated at once")

    def check_set(self, node):
        parent = self.parents[node]
        in_call = name_of(parent) in ("sorted", "len") and not parent.keywords
        behind_in = isinstance(parent, ast.Compare) and isinstance(parent.ops[0], (ast.In, ast.NotIn, ast.Eq, ast.NotEq))
        if not in_call and not behind_in:
            self.bad("L24", node, "set")

    def check_loop(self, node):
        over = {ast.unparse(part) for part in ast.walk(node.iter) if isinstance(part, (ast.Name, ast.Attribute))}
        copied = name_of(node.iter) in ("list", "sorted")
        for part in [part for row in node.body for part in ast.walk(row)]:
            changed = None
            if isinstance(part, ast.Call) and isinstance(part.func, ast.Attribute) and part.func.attr in CHANGING:
                changed = part.func.value
            if isinstance(part, ast.Subscript) and isinstance(part.ctx, (ast.Store, ast.Del)):
                changed = part.value
            if changed is not None and not copied and ast.unparse(changed) in over:
                self.bad("L23", part, "change of what a loop iterates over")

    def check_function(self, node):
        if node.end_lineno - node.lineno >= 40:
            self.bad("L10", node, "function too long")
        if node.decorator_list or node.args.vararg or node.args.kwarg or node.args.kwonlyargs:
            self.bad("L4", node, "decorator or star")
        if not ast.get_docstring(node) and node.name != "__init__":
            self.bad("style", node, "no docstring")
        local = [arg.arg for arg in node.args.args]
        inner = []
        for part in ast.walk(node):
            if isinstance(part, (ast.Assign, ast.For, ast.AugAssign)):
                for target in part.targets if isinstance(part, ast.Assign) else [part.target]:
                    local.extend(targets(target))
            if isinstance(part, COMPREHENSIONS):
                inner.extend(name for row in part.generators for name in targets(row.target))
            if isinstance(part, ast.Lambda):
                inner.extend(arg.arg for arg in part.args.args)
            if isinstance(part, ast.FunctionDef) and part is not node:
                self.bad("L4", part, "nested function")
        for name in sorted(set(local + inner)):
            if name in TAKEN or name in self.imported or name in self.classes or name in self.bound:
                self.bad("L15", node, f"local name {name}")
            if name.startswith("__") or not re.fullmatch(r"[A-Za-z_0-9]+", name):
                self.bad("L12", node, f"name {name}")
            if name in local and name in inner and name != "_":
                self.bad("L7", node, f"{name} is also the variable of a comprehension")
        for part in ast.walk(node):
            if isinstance(part, ast.Name) and part.id not in local + inner + self.bound and part.id not in BUILTINS:
                self.bad("L8", part, f"builtin {part.id}")
            if isinstance(part, ast.Name) and part.id == "_" and isinstance(part.ctx, ast.Load):
                self.bad("L12", part, "_ is read")

    def check_class(self, node):
        if node.decorator_list or node.keywords or len(node.bases) > 1:
            self.bad("L5", node, "class")
        if not ast.get_docstring(node):
            self.bad("style", node, "no docstring")
        for part in node.body:
            if isinstance(part, ast.FunctionDef):
                if part.name.startswith("__") and part.name not in DUNDERS:
                    self.bad("L5", part, "double-underscore method")
                if part.args.args[:1] and part.args.args[0].arg != "self":
                    self.bad("L5", part, "self")
            elif not (isinstance(part, ast.Expr) and isinstance(part.value, ast.Constant)):
                self.bad("L5", part, "part of a class")


def defined_in(text):
    """Return the names that a file binds at module level but by imports, and the names of its methods."""
    names, methods = [], []
    for node in ast.parse(text).body:
        if isinstance(node, (ast.FunctionDef, ast.ClassDef)):
            names.append(node.name)
        if isinstance(node, ast.Assign):
            names.extend(targets(node.targets[0]))
        if isinstance(node, ast.ClassDef):
            methods.extend(part.name for part in node.body if isinstance(part, ast.FunctionDef))
    return names, methods


def faults(texts, package):
    """Return what is wrong in the files of a package, told as a dict from their names to their texts."""
    defined = {name: defined_in(text)[0] for name, text in texts.items()}
    methods = [method for text in texts.values() for method in defined_in(text)[1]]
    found = []
    for name, text in texts.items():
        found.extend(f"{name}: {fault}" for fault in Checker(text, package, defined, methods).check())
    return found


def imports_of(text, package):
    """Return the files of the package from which a file imports."""
    return [node.module.partition(".")[2] for node in ast.parse(text).body if isinstance(node, ast.ImportFrom)
            and (node.module or "").startswith(package + ".")]
