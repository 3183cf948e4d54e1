"""A check of the package's files against the rules of LANGUAGE.md that can be told from the code alone."""

import ast
import builtins
import re
import tokenize
from pathlib import Path

PACKAGE = Path(__file__).resolve().parent.parent / "keptedits"

BUILTINS = set("""len range enumerate zip min max sum abs sorted reversed int str bool bytes list tuple dict set
    frozenset isinstance ord repr any all divmod pow getattr hasattr setattr Exception ValueError TypeError KeyError
    IndexError LookupError ZeroDivisionError ArithmeticError OverflowError RuntimeError NotImplementedError
    AttributeError StopIteration NotImplemented property staticmethod classmethod super iter next map""".split())

# The examples of another test may have left a builtin _ behind.
ALL_BUILTINS = set(dir(builtins)) - {"_"}

METHODS = set("""append clear copy count endswith extend find get index insert isalnum isalpha isdigit islower isspace
    isupper items join keys ljust lower lstrip partition pop remove replace reverse rfind rjust rpartition rsplit rstrip
    setdefault split splitlines startswith strip update upper values zfill bit_length add discard isascii""".split())

MODIFYING = set("append clear extend insert pop remove reverse setdefault update add discard".split())

DUNDERS = set("""__init__ __eq__ __repr__ __str__ __len__ __enter__ __exit__ __call__ __iter__ __lt__ __le__ __gt__
    __ge__ __ne__ __contains__ __getitem__ __setitem__ __bool__ __add__ __sub__ __mul__ __and__ __or__""".split())

PURE = set("__eq__ __repr__ __str__ __len__ __contains__ __lt__ __le__ __gt__ __ge__ __ne__ __bool__".split())

HEAP = {"heappush", "heappop", "heapify"}

NOWHERE = set("""register mro elements open input law version_info with_traceback add_note""".split())

WORDS = re.compile(r"\b(type|typing|typing_extensions|enum|Enum|IntEnum|StrEnum|Flag|IntFlag|Generic|Protocol|ABC|"
                   r"ABCMeta|namedtuple|NamedTuple|TypedDict|TYPE_CHECKING|abstractmethod)\b|"
                   r"dataclass|overload|contextmanager|_wall\b|_WallAttr")

PLAIN = re.compile(r"_?[A-Za-z][A-Za-z0-9_]*\Z|_\Z")

BARRED = re.compile(r"(_(pe|dcw|enum|cm|twin_re|lay|law|stub)_|_sre|_wall(?!s\Z)|_WallAttr)|"
                    r"_(cold|tuplegetter|outside|record|written_out|member_names)[0-9_]*\Z")

STATEMENTS = (ast.Assign, ast.AugAssign, ast.If, ast.While, ast.For, ast.Return, ast.Break, ast.Continue, ast.Pass,
              ast.Raise, ast.Assert, ast.Delete, ast.Nonlocal, ast.Match, ast.With, ast.Try, ast.Expr, ast.FunctionDef,
              ast.ClassDef, ast.ImportFrom)

AT_ONCE = set("list tuple dict sorted sum any all enumerate zip min max".split())


class Source:
    """A file of the package, with its tree, in which each node knows its parent."""

    def __init__(self, path):
        self.path = path
        self.name = path.stem
        self.text = path.read_text(encoding="utf-8")
        self.tree = ast.parse(self.text)
        self.tree.parent = None
        for node in ast.walk(self.tree):
            for child in ast.iter_child_nodes(node):
                child.parent = node

    def nodes(self, *kinds):
        """Return all nodes of these kinds."""
        return [node for node in ast.walk(self.tree) if isinstance(node, kinds)]


def sources():
    """Return the files of the package."""
    return [Source(path) for path in sorted(PACKAGE.rglob("*.py"))]


def is_docstring(node):
    """Tell whether an expression is a docstring."""
    owner = node.parent
    return (isinstance(node, ast.Expr) and isinstance(node.value, ast.Constant) and isinstance(node.value.value, str)
            and isinstance(owner, (ast.Module, ast.ClassDef, ast.FunctionDef)) and owner.body[0] is node)


def function_of(node):
    """Return the nearest function around a node, None if there is none."""
    while node is not None and not isinstance(node, ast.FunctionDef):
        node = node.parent
    return node


def called(node):
    """Return the bare name that a call calls, None if it calls something else."""
    return node.func.id if isinstance(node, ast.Call) and isinstance(node.func, ast.Name) else None


def parameters(function):
    """Return the names of the parameters of a function or lambda."""
    told = function.args
    found = told.posonlyargs + told.args + told.kwonlyargs + [one for one in (told.vararg, told.kwarg) if one]
    return [one.arg for one in found]


def folder_faults():
    """L1, L14: what the folder may contain."""
    found = []
    for path in PACKAGE.rglob("*"):
        if "__pycache__" in path.parts:
            continue
        if path.is_dir() and not (path / "__init__.py").exists():
            found.append(f"L14 {path.name}")
        if path.is_file() and (path.suffix != ".py" or not re.fullmatch(r"[a-z0-9_]+", path.stem)):
            found.append(f"L1 {path.name}")
        if path.stem in ALL_BUILTINS or re.match(r"law_|test|site|conftest|usercustomize", path.stem):
            found.append(f"L14 {path.name}")
    return found


def size_faults(source):
    """L10, L14: sizes and characters."""
    lines = source.text.split("\n")
    found = [] if len(lines) <= 399 else ["L10 file"]
    found += [f"L10 line {at + 1}" for at, line in enumerate(lines) if len(line) > 120]
    found += [f"L14 line {at + 1}" for at, line in enumerate(lines) if not re.fullmatch(r"[ -~]*", line)]
    for node in source.nodes(ast.FunctionDef):
        if node.end_lineno - node.lineno + 1 > 40:
            found.append(f"L10 {node.name}")
    return found


def import_faults(source, defined):
    """L2, L16: imports stand at the top and name the file that defines the name."""
    found = []
    seen_other = False
    for node in source.tree.body:
        if isinstance(node, ast.ImportFrom):
            if seen_other or node.level or any(one.asname for one in node.names):
                found.append(f"L2 line {node.lineno}")
            if node.module == "heapq" and {one.name for one in node.names} <= HEAP:
                continue
            if not node.module.startswith("keptedits."):
                found.append(f"L2 line {node.lineno}")
            elif not {one.name for one in node.names} <= defined.get(node.module[len("keptedits."):], set()):
                found.append(f"L16 line {node.lineno}")
        elif not is_docstring(node):
            seen_other = True
    if source.nodes(ast.Import):
        found.append("L2 import")
    for node in source.nodes(ast.Name):
        if node.id in HEAP and (called(node.parent) != node.id or function_of(node) is None or node.parent.keywords):
            found.append(f"L2 line {node.lineno}")
    return found


def module_faults(source):
    """L3, L15: what stands at module level, and that each name is bound once."""
    found, bound = [], []
    for node in source.tree.body:
        if isinstance(node, ast.Assign):
            bound += [ast.unparse(target) for target in node.targets]
            try:
                value = ast.literal_eval(node.value)
            except ValueError:
                value = {None}
            if len(node.targets) != 1 or isinstance(value, (set, float)):
                found.append(f"L3 line {node.lineno}")
            if isinstance(value, (list, tuple, dict)) and any(isinstance(one, (list, dict)) for one in value):
                found.append(f"L15 line {node.lineno}")
        elif isinstance(node, (ast.FunctionDef, ast.ClassDef)):
            bound.append(node.name)
        elif isinstance(node, ast.ImportFrom):
            bound += [one.name for one in node.names]
        elif not is_docstring(node):
            found.append(f"L3 line {node.lineno}")
    found += [f"L15 {name}" for name in bound if bound.count(name) > 1 or name in ALL_BUILTINS]
    if source.name == "__init__" and bound:
        found.append("L16 __init__")
    return found


def class_faults(source):
    """L5, L18: what stands in a class."""
    found = []
    for node in source.nodes(ast.ClassDef):
        if node.decorator_list or node.keywords or not isinstance(node.parent, ast.Module):
            found.append(f"L5 {node.name}")
        names = []
        for one in node.body:
            if isinstance(one, ast.FunctionDef):
                names.append(one.name)
                if one.name.startswith("__") and one.name not in DUNDERS:
                    found.append(f"L5 {node.name}.{one.name}")
            elif isinstance(one, ast.Assign) and isinstance(one.value, ast.Constant):
                names.append(one.targets[0].id)
            elif not is_docstring(one):
                found.append(f"L5 {node.name} line {one.lineno}")
        found += [f"L18 {node.name}.{name}" for name in names if names.count(name) > 1]
    return found


def function_faults(source):
    """L4, L15, L21: decorators, defaults, parameters, annotations."""
    found = []
    taken = {name.name for node in source.nodes(ast.ImportFrom) for name in node.names}
    taken |= {node.name for node in source.nodes(ast.ClassDef)} | set(ALL_BUILTINS)
    for node in source.nodes(ast.FunctionDef):
        in_class = isinstance(node.parent, ast.ClassDef)
        for one in node.decorator_list:
            if not in_class or ast.unparse(one) not in ("property", "staticmethod", "classmethod"):
                found.append(f"L4 {node.name}")
        for one in node.args.defaults + [one for one in node.args.kw_defaults if one]:
            if not isinstance(ast.literal_eval(one), (int, str, bytes, tuple, bool)) and ast.unparse(one) != "None":
                found.append(f"L4 {node.name}")
        names = [one.id for one in ast.walk(node) if isinstance(one, ast.Name) and isinstance(one.ctx, ast.Store)]
        found += [f"L15 {node.name} {name}" for name in parameters(node) + names if name in taken]
        if node.returns or any(one.annotation for one in ast.walk(node) if isinstance(one, ast.arg)):
            found.append(f"L21 {node.name}")
    for node in source.nodes(ast.Lambda):
        if node.args.vararg or node.args.kwarg or node.args.kwonlyargs or node.args.posonlyargs:
            found.append(f"L4 line {node.lineno}")
        found += [f"L15 line {node.lineno}" for name in parameters(node) if name in taken]
    return found


def statement_faults(source):
    """L6, L19, L20: statements, handlers, raised errors, tests of identity."""
    found = []
    for node in source.nodes(ast.stmt):
        if not isinstance(node, STATEMENTS):
            found.append(f"L6 line {node.lineno}")
        if isinstance(node, ast.Expr) and not is_docstring(node):
            if not isinstance(node.value, (ast.Call, ast.Yield, ast.YieldFrom)):
                found.append(f"L6 line {node.lineno}")
    for node in source.nodes(ast.ExceptHandler):
        names = node.type.elts if isinstance(node.type, ast.Tuple) else [node.type]
        for one in names:
            own = isinstance(one, ast.Name) and one.id not in ALL_BUILTINS
            if not own and not (isinstance(one, ast.Name) and one.id in ("KeyError", "ZeroDivisionError")):
                found.append(f"L19 line {node.lineno}")
    for node in source.nodes(ast.Raise):
        if node.exc is not None and not re.match(r"[A-Z]", called(node.exc) or ""):
            found.append(f"L19 line {node.lineno}")
    for node in source.nodes(ast.Compare):
        for sign, one in zip(node.ops, node.comparators):
            if isinstance(sign, (ast.Is, ast.IsNot)) and not isinstance(one, ast.Constant):
                found.append(f"L20 line {node.lineno}")
    return found


def value_faults(source):
    """L7, L13, L24, L27: numbers, signs, strings, sets, comprehensions."""
    found = []
    for node in source.nodes(ast.expr):
        place = f"line {node.lineno}"
        if isinstance(node, ast.Constant):
            if isinstance(node.value, (float, complex, bytes)) or node.value is ...:
                found.append(f"L7 {place}")
            if isinstance(node.value, str) and "%" in node.value or re.search(r"\._+\Z", str(node.value)):
                found.append(f"L27 {place}")
        if isinstance(node, ast.BinOp) and isinstance(node.op, (ast.Div, ast.MatMult)):
            found.append(f"L7 {place}")
        if isinstance(node, ast.BinOp) and isinstance(node.op, ast.Pow) and not isinstance(node.right, ast.Constant):
            found.append(f"L27 {place}")
        if isinstance(node, (ast.GeneratorExp, ast.Await, ast.NamedExpr)):
            found.append(f"L7 {place}")
        if isinstance(node, (ast.ListComp, ast.DictComp, ast.SetComp)) and function_of(node) is None:
            found.append(f"L7 {place}")
        if isinstance(node, ast.JoinedStr):
            inner = [one for part in node.values if isinstance(part, ast.FormattedValue) for one in ast.walk(part.value)]
            if any(isinstance(one, (ast.JoinedStr, ast.Constant)) and not isinstance(getattr(one, "value", 0), int)
                   for one in inner):
                found.append(f"L27 {place}")
        if isinstance(node, (ast.Set, ast.SetComp)) or called(node) == "set":
            found += [] if is_set_place(node) else [f"L24 {place}"]
    lambdas = [node.lineno for node in source.nodes(ast.Lambda)]
    return found + [f"L13 line {line}" for line in lambdas if lambdas.count(line) > 1]


def is_set_place(node):
    """Tell whether a set stands where a set may stand."""
    owner = node.parent
    if called(owner) in ("sorted", "len"):
        return owner.args[0] is node
    if isinstance(owner, ast.Compare):
        return isinstance(owner.ops[-1], (ast.In, ast.NotIn, ast.Eq, ast.NotEq))
    if isinstance(owner, ast.BinOp):
        return is_set_place(owner)
    return isinstance(owner, ast.Assign) and isinstance(owner.targets[0], ast.Name) and function_of(node) is not None


def stored_set_faults(source):
    """L24: a stored set is only added to, tested, measured and sorted."""
    found = []
    for function in source.nodes(ast.FunctionDef):
        assigns = [node for node in ast.walk(function) if isinstance(node, ast.Assign)]
        held = [node.targets[0].id for node in assigns
                if isinstance(node.value, (ast.Set, ast.SetComp)) or called(node.value) == "set"]
        for node in ast.walk(function):
            if not isinstance(node, ast.Name) or node.id not in held:
                continue
            owner = node.parent
            fits = called(owner) in ("len", "sorted") or isinstance(owner, (ast.Compare, ast.If, ast.While, ast.Assign))
            fits = fits or (isinstance(owner, ast.Attribute) and owner.attr in ("add", "discard"))
            if not fits or held.count(node.id) > 1:
                found.append(f"L24 line {node.lineno}")
    return found


def name_faults(source):
    """L8, L12, L17: builtins that may be used, plain names, words that are not used."""
    found = []
    for node in ast.walk(source.tree):
        names = [getattr(node, key) for key in ("id", "attr", "arg", "name") if isinstance(getattr(node, key, 0), str)]
        for name in names:
            dunder = name in DUNDERS or name in ("__class__", "__name__")
            if not dunder and not isinstance(node, ast.alias) and not PLAIN.match(name):
                found.append(f"L12 {name}")
            if not isinstance(node, ast.alias) and BARRED.match(name):
                found.append(f"L12 {name}")
            if name in NOWHERE:
                found.append(f"L17 {name}")
        if isinstance(node, ast.Name) and node.id in ALL_BUILTINS and node.id not in BUILTINS:
            found.append(f"L8 {node.id} line {node.lineno}")
        if isinstance(node, ast.Name) and node.id == "_" and isinstance(node.ctx, ast.Load):
            found.append(f"L12 _ line {node.lineno}")
    docstrings = {node.value.lineno + at for node in source.nodes(ast.Expr) if is_docstring(node)
                  for at in range(node.value.end_lineno - node.value.lineno + 1)}
    with open(source.path, "rb") as held:
        for token in tokenize.tokenize(held.readline):
            checked = token.type in (tokenize.NAME, tokenize.STRING) and token.start[0] not in docstrings
            if checked and WORDS.search(token.string):
                found.append(f"L17 {token.string}")
    return found


def call_faults(source, own_methods):
    """L22, L23, L25: keywords of builtins, what is iterated at once, methods of builtin values."""
    found = []
    keywords = {"sorted": {"key", "reverse"}, "min": {"key", "default"}, "max": {"key", "default"}, "sum": {"start"},
                "enumerate": {"start"}, "zip": {"strict"}}
    for node in source.nodes(ast.Call):
        name = called(node)
        told = {one.arg for one in node.keywords}
        if name in BUILTINS and not told <= keywords.get(name, set()):
            found.append(f"L22 line {node.lineno}")
        lazy = name in ("zip", "enumerate", "reversed", "range")
        if isinstance(node.func, ast.Attribute):
            if node.func.attr not in METHODS | own_methods:
                found.append(f"L25 {node.func.attr} line {node.lineno}")
            lazy = node.func.attr in ("items", "keys", "values")
        if lazy and not is_iterated(node):
            found.append(f"L23 line {node.lineno}")
    return found


def is_iterated(node):
    """Tell whether what a call gives is iterated on the spot."""
    owner = node.parent
    if isinstance(owner, (ast.For, ast.comprehension)):
        return owner.iter is node
    if called(owner) in AT_ONCE:
        return node in owner.args
    if called(owner) in ("len", "reversed"):
        return called(node) in (None, "range")
    if isinstance(owner, ast.Compare):
        return isinstance(owner.ops[-1], (ast.In, ast.NotIn))
    return isinstance(owner, ast.Call) and isinstance(owner.func, ast.Attribute) and owner.func.attr == "join"


def walked(node):
    """Return the texts of what a loop goes over: names, attributes and items, through enumerate, items and choices."""
    if isinstance(node, (ast.Name, ast.Attribute, ast.Subscript)):
        return [ast.unparse(node)]
    if called(node) in ("zip", "enumerate", "reversed"):
        parts = node.args
    elif isinstance(node, ast.Call) and isinstance(node.func, ast.Attribute):
        parts = [node.func.value] if node.func.attr in ("items", "keys", "values") else []
    else:
        parts = [node.body, node.orelse] if isinstance(node, ast.IfExp) else getattr(node, "values", [])
    return [text for part in parts for text in walked(part)]


def shared_names(function):
    """Return the dict from texts to the set of all texts that can be names of the same thing in a function."""
    groups = {}
    for node in ast.walk(function):
        for target in getattr(node, "targets", []) if isinstance(node, ast.Assign) else []:
            pairs = [(target, node.value)]
            if isinstance(target, ast.Tuple) and isinstance(node.value, ast.Tuple):
                pairs = zip(target.elts, node.value.elts)
            for one, value in pairs:
                for text in [] if isinstance(value, ast.Call) else walked(value):
                    joined = {ast.unparse(one), text} | groups.get(ast.unparse(one), set()) | groups.get(text, set())
                    groups.update({name: joined for name in joined})
    return groups


def changed(node):
    """Return what a statement or a call changes, None if it changes nothing."""
    if isinstance(node, ast.Subscript) and not isinstance(node.ctx, ast.Load):
        return node.value
    if isinstance(node, ast.AugAssign):
        return node.target
    if isinstance(node, ast.Call) and isinstance(node.func, ast.Attribute) and node.func.attr in MODIFYING | {"sort"}:
        return node.func.value
    return node.args[0] if called(node) in HEAP else None


def loop_faults(source):
    """L23: what a loop goes over is not changed in it, nor what can be the same by another name."""
    found = []
    for function in source.nodes(ast.FunctionDef):
        groups = shared_names(function)
        for node in ast.walk(function):
            loops = [node] if isinstance(node, ast.For) else getattr(node, "generators", [])
            told = {name for loop in loops for text in walked(loop.iter) for name in groups.get(text, {text})}
            for inner in ast.walk(node) if told else []:
                if changed(inner) is not None and ast.unparse(changed(inner)) in told:
                    found.append(f"L23 line {inner.lineno}")
    return found


def class_use_faults(source, classes):
    """L18: a class is called, a base, or named in isinstance, except or raise."""
    found = []
    for node in source.nodes(ast.Name):
        if node.id not in classes or not isinstance(node.ctx, ast.Load):
            continue
        owner = node.parent
        fits = isinstance(owner, (ast.ClassDef, ast.ExceptHandler, ast.Attribute))
        fits = fits or (isinstance(owner, ast.Call) and owner.func is node)
        outer = owner.parent if isinstance(owner, ast.Tuple) else owner
        fits = fits or called(outer) == "isinstance" or isinstance(outer, ast.ExceptHandler)
        if not fits:
            found.append(f"L18 line {node.lineno}")
    return found


def member_faults(files):
    """L5, L18, L26: names of methods, properties and attributes over all classes."""
    methods, properties, special, attributes = set(), set(), set(), set()
    for source in files:
        for node in source.nodes(ast.ClassDef):
            for one in node.body:
                if isinstance(one, ast.FunctionDef):
                    told = [ast.unparse(mark) for mark in one.decorator_list]
                    where = properties if "property" in told else special if told else methods
                    where.add(one.name)
        attributes |= {node.attr for node in source.nodes(ast.Attribute) if isinstance(node.ctx, ast.Store)}
    values = [vars(kind) for kind in (int, str, bytes, list, dict, set, tuple)]
    taken = {name for one in values for name in one}
    found = [f"L5 {name}" for name in (properties & (methods | special | attributes)) | (special & (methods | attributes))]
    found += [f"L18 {name}" for name in methods & attributes]
    return found + [f"L26 {name}" for name in (methods | properties | special | attributes) & taken - DUNDERS]


def pure_faults(files):
    """L5, L28: what operators, properties and the like run changes nothing and makes no object."""
    functions, classes, waiting, seen, found = {}, set(), [], set(), []
    for source in files:
        classes |= {node.name for node in source.nodes(ast.ClassDef)}
        for node in source.nodes(ast.FunctionDef):
            functions.setdefault(node.name, []).append(node)
            if node.name in PURE or "property" in [ast.unparse(one) for one in node.decorator_list]:
                waiting.append(node)
    while waiting:
        function = waiting.pop()
        if id(function) in seen:
            continue
        seen.add(id(function))
        for node in ast.walk(function):
            if isinstance(node, (ast.Attribute, ast.Subscript)) and not isinstance(node.ctx, ast.Load):
                found.append(f"L5 {function.name} line {node.lineno}")
            if isinstance(node, ast.Call):
                name = node.func.attr if isinstance(node.func, ast.Attribute) else called(node)
                if name in classes or name in MODIFYING or name in parameters(function):
                    found.append(f"L5 {function.name} calls {name}")
                waiting += functions.get(name, [])
    return found


def cycle_faults(files):
    """L16: no two files import from each other."""
    wanted = {source.name: [node.module.split(".")[-1] for node in source.nodes(ast.ImportFrom)] for source in files}
    while True:
        ready = [name for name, needed in wanted.items() if not set(needed) & set(wanted)]
        if not ready:
            return [f"L16 {name}" for name in wanted]
        wanted = {name: needed for name, needed in wanted.items() if name not in ready}


def faults():
    """Return all faults, each with the name of its file."""
    files = sources()
    defined = {source.name: {node.name for node in source.tree.body if isinstance(node, (ast.FunctionDef, ast.ClassDef))}
               | {node.targets[0].id for node in source.tree.body if isinstance(node, ast.Assign)} for source in files}
    classes = {node.name for source in files for node in source.nodes(ast.ClassDef)}
    own_methods = {one.name for source in files for node in source.nodes(ast.ClassDef) for one in node.body
                   if isinstance(one, ast.FunctionDef)}
    found = folder_faults() + member_faults(files) + pure_faults(files) + cycle_faults(files)
    for source in files:
        told = size_faults(source) + import_faults(source, defined) + module_faults(source) + class_faults(source)
        told += function_faults(source) + statement_faults(source) + value_faults(source) + stored_set_faults(source)
        told += name_faults(source) + call_faults(source, own_methods) + class_use_faults(source, classes)
        told += loop_faults(source)
        found += [f"{source.name}: {one}" for one in told]
    return found
