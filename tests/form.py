"""The rules of the Python subset, as far as this looks at them: complaints(files) tells the breaches that it sees.

Not looked at is what hangs on the kinds of values (as in L22 to L24) or on what a run does (L11), and some corners of
nested functions, deletions and comprehensions (L4, L6, L7). Where a rule lets something be under many conditions that the
package has no need of (generators, sets that are kept, decorators, kept iterators, matching, annotations), it is
complained of altogether: loosen that here first.
"""

import ast
import builtins
import io
import re
import tokenize

CALLED = (
    "len range enumerate zip min max sum abs sorted reversed int str bool list tuple dict set isinstance ord repr any "
    "all divmod"
).split()
OWN_ERRORS_ABOVE = (
    "Exception ValueError TypeError KeyError IndexError LookupError ZeroDivisionError ArithmeticError OverflowError "
    "RuntimeError NotImplementedError"
).split()
UNDERSCORED = ("__init__", "__eq__", "__repr__", "__str__", "__len__")
METHODS = (
    "append clear copy count endswith extend find get index insert isalnum isalpha isdigit islower isspace isupper items "
    "join keys ljust lower lstrip partition pop remove replace reverse rfind rjust rpartition rsplit rstrip setdefault "
    "split splitlines startswith strip update upper values zfill bit_length title capitalize swapcase casefold center "
    "expandtabs removeprefix removesuffix rindex isascii isdecimal isnumeric istitle isidentifier isprintable"
).split()
CHANGING = "append clear extend insert pop remove reverse setdefault update sort add discard".split()
NO_ATTRIBUTES = (
    "items keys values pop update append clear extend insert remove reverse setdefault sort args encode decode hex "
    "fromhex format"
).split()
FREE_ATTRIBUTES = "count index title find get join lower upper split strip copy add".split()
NOWHERE = "register mro elements open input law version_info with_traceback add_note format_map".split()
NO_NAMES = (
    "attrgetter breakpoint builtins compile copyright credits delattr dir eval exec exit gc getattr globals hasattr help "
    "id importlib license locals methodcaller os quit setattr super type vars sys chr frozenset bytes iter next print"
).split()
BARRED = (
    "type typing typing_extensions enum Enum IntEnum StrEnum Flag IntFlag Generic Protocol ABC ABCMeta namedtuple "
    "NamedTuple TypedDict TYPE_CHECKING abstractmethod"
).split()
NO_FILES = "test tests testing site conftest sitecustomize usercustomize".split()
KINDS = "int str bool bytes list tuple dict".split()
AT_ONCE = ("zip", "enumerate", "reversed", "range", "items", "keys", "values")
TAKES_ALL = "list tuple dict sorted sum any all enumerate zip min max".split()
STATEMENTS = (
    ast.Assign, ast.AugAssign, ast.If, ast.While, ast.For, ast.Return, ast.Break, ast.Continue, ast.Pass, ast.Raise,
    ast.Assert, ast.Delete, ast.Try, ast.Expr, ast.FunctionDef,
)
EXPRESSIONS = (
    ast.BoolOp, ast.BinOp, ast.UnaryOp, ast.Lambda, ast.IfExp, ast.Dict, ast.Set, ast.ListComp, ast.SetComp, ast.DictComp,
    ast.Compare, ast.Call, ast.JoinedStr, ast.FormattedValue, ast.Constant, ast.Attribute, ast.Subscript, ast.Starred,
    ast.Name, ast.List, ast.Tuple, ast.Slice,
)
COMPREHENSIONS = (ast.ListComp, ast.SetComp, ast.DictComp)
FRAMES = re.compile(r"(f|tb|co|gi|cr|ag)_(back|builtins|code|globals|lasti|lineno|locals|trace|frame|next|names|consts)\b")
FORMAT = re.compile(r"(.?[<>=^])?[-+ ]?#?0?[0-9]{0,2}[,_]?(\.[0-9]{1,2})?[dsxXob]?\Z")


class Package:
    """The trees of all files, what stands where, and the complaints."""

    def __init__(self, files):
        self.files = files
        self.trees = {name: ast.parse(text) for name, text in files.items()}
        self.found = []
        self.above = {}
        for tree in self.trees.values():
            for node in ast.walk(tree):
                for child in ast.iter_child_nodes(node):
                    self.above[child] = node
        self.classes = {node.name: node for node in self.every(ast.ClassDef)}
        self.methods = {
            node.name for one in self.classes.values() for node in one.body if isinstance(node, ast.FunctionDef)
        }
        self.attributes = {
            node.attr for node in self.every(ast.Attribute) if isinstance(node.ctx, ast.Store)
        }
        self.defined = {
            name: {bound for node in tree.body for bound in bound_at_top(node)} for name, tree in self.trees.items()
        }
        self.errors = {name for name in self.classes if self.is_error(name)}

    def every(self, *kinds):
        for tree in self.trees.values():
            for node in ast.walk(tree):
                if isinstance(node, kinds):
                    yield node

    def is_error(self, name):
        if name not in self.classes:
            return name in OWN_ERRORS_ABOVE
        return any(isinstance(base, ast.Name) and self.is_error(base.id) for base in self.classes[name].bases)

    def say(self, rule, file, node):
        self.found.append((rule, file, getattr(node, "lineno", 0)))

    def function_around(self, node):
        while node in self.above and not isinstance(node, (ast.FunctionDef, ast.Lambda)):
            node = self.above[node]
        return node if isinstance(node, (ast.FunctionDef, ast.Lambda)) else None


def bound_at_top(node):
    """The names that a statement of a module binds."""
    if isinstance(node, (ast.FunctionDef, ast.ClassDef)):
        return [node.name]
    if isinstance(node, ast.ImportFrom):
        return [alias.asname or alias.name for alias in node.names]
    if isinstance(node, ast.Assign):
        return [target.id for target in node.targets if isinstance(target, ast.Name)]
    return []


def is_docstring(node):
    return isinstance(node, ast.Expr) and isinstance(node.value, ast.Constant) and isinstance(node.value.value, str)


def called(node):
    """The name of what a call calls, a function's or a method's."""
    if isinstance(node, ast.Call) and isinstance(node.func, ast.Name):
        return node.func.id
    if isinstance(node, ast.Call) and isinstance(node.func, ast.Attribute):
        return node.func.attr
    return ""


def is_plain(node, functions, inside=False):
    """Whether a value of a module is written out; inside another one no list and no dict."""
    if isinstance(node, ast.Constant):
        return node.value is None or isinstance(node.value, (bool, int, str, bytes))
    if isinstance(node, ast.UnaryOp):
        return isinstance(node.op, ast.USub) and isinstance(node.operand, ast.Constant)
    if isinstance(node, ast.Name):
        return node.id in functions
    if isinstance(node, ast.Tuple) or (isinstance(node, ast.List) and not inside):
        return all(is_plain(one, functions, True) for one in node.elts)
    if isinstance(node, ast.Dict) and not inside:
        return all(one is not None and is_plain(one, functions, True) for one in node.keys + node.values)
    return False


def look_at_file(package, file, text, tree):
    """L1, L10, L14, L17, L27: the file as a text."""
    rows = text.split("\n")
    if not re.fullmatch(r"(__init__|[a-z][a-z0-9_]*)\.py", file) or file[:-3] in NO_FILES + dir(builtins):
        package.say("L14", file, tree)
    if len(rows) - 1 > 399 or max(len(row) for row in rows) > 120:
        package.say("L10", file, tree)
    if not re.fullmatch(r"[ -~\n]*", text):
        package.say("L14", file, tree)
    if set(re.findall(r"\w+", text)) & set(BARRED) or re.search("dataclass|overload|contextmanager", text):
        package.say("L17", file, tree)
    for token in tokenize.generate_tokens(io.StringIO(text).readline):
        if token.type == tokenize.STRING or token.type == getattr(tokenize, "FSTRING_MIDDLE", -1):
            if re.search(r"\\[^nt\\\"']", token.string) or "%" in token.string:
                package.found.append(("L27", file, token.start[0]))


def look_at_top(package, file, tree):
    """L2, L3, L15, L16: what stands at module level."""
    bound, functions, imports_end = [], set(), False
    for at, node in enumerate(tree.body):
        bound.extend(bound_at_top(node))
        if isinstance(node, ast.ImportFrom):
            look_at_import(package, file, node)
            if imports_end:
                package.say("L2", file, node)
            continue
        imports_end = imports_end or at > 0
        if isinstance(node, ast.FunctionDef):
            functions.add(node.name)
        elif isinstance(node, ast.Assign):
            if len(node.targets) != 1 or not isinstance(node.targets[0], ast.Name):
                package.say("L3", file, node)
            if not is_plain(node.value, functions):
                package.say("L3", file, node)
        elif not isinstance(node, ast.ClassDef) and not (at == 0 and is_docstring(node)):
            package.say("L3", file, node)
    for name in bound:
        if bound.count(name) > 1 or name in dir(builtins):
            package.say("L15", file, tree)


def look_at_import(package, file, node):
    match = re.fullmatch(r"pathbook\.([a-z][a-z0-9_]*)", node.module or "")
    if node.level or not match or node.names[0].name == "*":
        package.say("L2", file, node)
        return
    other = match.group(1) + ".py"
    for alias in node.names:
        tops = package.trees[other].body if other in package.trees else []
        made = [name for one in tops if not isinstance(one, ast.ImportFrom) for name in bound_at_top(one)]
        if alias.name not in made:
            package.say("L16", file, node)


def look_at_circles(package):
    """L16: no two files import from each other, however far around."""
    imports = {
        file: {node.module.split(".")[-1] + ".py" for node in ast.walk(tree) if isinstance(node, ast.ImportFrom)}
        for file, tree in package.trees.items()
    }
    for file in imports:
        reached, new = set(), set(imports[file])
        while new:
            reached |= new
            new = {far for near in new for far in imports.get(near, ())} - reached
        if file in reached:
            package.say("L16", file, package.trees[file])


def look_at_names(package, file, node):
    """L8, L12, L15, L17: every name that is given or read."""
    given = []
    if isinstance(node, ast.Name):
        given = [node.id]
        if isinstance(node.ctx, ast.Store) and node.id in dir(builtins):
            package.say("L15", file, node)
        if isinstance(node.ctx, ast.Load) and node.id in dir(builtins):
            if node.id not in CALLED + OWN_ERRORS_ABOVE:
                package.say("L8", file, node)
    elif isinstance(node, ast.Attribute):
        given = [node.attr]
        if node.attr in NOWHERE + ["format"]:
            package.say("L17", file, node)
    elif isinstance(node, ast.arg):
        given = [node.arg]
        if node.arg in dir(builtins):
            package.say("L15", file, node)
    elif isinstance(node, (ast.FunctionDef, ast.ClassDef)):
        given = [node.name]
    elif isinstance(node, ast.keyword) and node.arg:
        given = [node.arg]
    for name in given:
        if not re.fullmatch(r"[A-Za-z][A-Za-z0-9_]*", name) and name not in UNDERSCORED:
            package.say("L12", file, node)
        if FRAMES.match(name) or name in NOWHERE or (name in NO_NAMES and not isinstance(node, (ast.Attribute, ast.keyword))):
            package.say("L17", file, node)


def look_at_locals(package, file, tree):
    """L15: no parameter or local variable is called like a class or an import of its file."""
    taken = {name for one in tree.body if isinstance(one, (ast.ClassDef, ast.ImportFrom)) for name in bound_at_top(one)}
    for node in ast.walk(tree):
        if isinstance(node, ast.arg) and node.arg in taken:
            package.say("L15", file, node)
        if isinstance(node, ast.Name) and isinstance(node.ctx, ast.Store) and node.id in taken:
            package.say("L15", file, node)


def look_at_function(package, file, node):
    """L4, L10, L21: the head of a function, and its length."""
    arguments = node.args
    if node.end_lineno - node.lineno + 1 > 40:
        package.say("L10", file, node)
    if arguments.posonlyargs or node.decorator_list:
        package.say("L4", file, node)
    for default in arguments.defaults + [one for one in arguments.kw_defaults if one is not None]:
        if not is_plain(default, ()) or isinstance(default, (ast.List, ast.Dict)):
            package.say("L4", file, default)
    every = arguments.posonlyargs + arguments.args + arguments.kwonlyargs
    if node.returns is not None or any(one.annotation is not None for one in every):
        package.say("L21", file, node)


def look_at_class(package, file, node):
    """L5, L18, L26: what stands in a class."""
    names = []
    for base in node.bases:
        if not isinstance(base, ast.Name) or base.id not in list(package.classes) + OWN_ERRORS_ABOVE:
            package.say("L5", file, node)
    if node.decorator_list or node.keywords or not isinstance(package.above[node], ast.Module):
        package.say("L5", file, node)
    for at, one in enumerate(node.body):
        if isinstance(one, ast.FunctionDef):
            names.append(one.name)
            if one.name.startswith("__") and one.name not in UNDERSCORED:
                package.say("L5", file, one)
            look_at_underscored(package, file, one)
        elif not (at == 0 and is_docstring(one)):
            package.say("L5", file, one)
    kinds = (str, int, list, dict, set, bytes)
    for name in names:
        if names.count(name) > 1 or name in package.attributes:
            package.say("L18", file, node)
        if name not in UNDERSCORED + ("add", "discard") and name not in METHODS and any(hasattr(one, name) for one in kinds):
            package.say("L26", file, node)


def look_at_underscored(package, file, node):
    """L28: what double-underscore methods tell, and that they change nothing."""
    if node.name not in UNDERSCORED:
        return
    inside = list(ast.walk(node))
    returns = [one for one in inside if isinstance(one, ast.Return)]
    if node.name == "__init__":
        if returns:
            package.say("L28", file, node)
        return
    changes = [one for one in inside if isinstance(one, (ast.Assign, ast.AugAssign, ast.Delete))]
    if changes or any(called(one) in CHANGING for one in inside):
        package.say("L28", file, node)
    if node.name == "__eq__":
        return
    if not isinstance(node.body[-1], ast.Return):
        package.say("L28", file, node)
    for one in returns:
        told = one.value
        if node.name == "__len__":
            good = called(told) == "len" or (isinstance(told, ast.Constant) and isinstance(told.value, int))
        else:
            good = called(told) in ("str", "repr", "join") or isinstance(told, (ast.JoinedStr, ast.Constant))
        if not good:
            package.say("L28", file, one)


def look_at_statement(package, file, node):
    """L6, L18, L19: the kinds of statements, errors, and where attributes are set."""
    if isinstance(node, ast.Expr) and not is_docstring(node) and not isinstance(node.value, ast.Call):
        package.say("L6", file, node)
    at_top = isinstance(package.above[node], ast.Module)
    if isinstance(node, ast.Import) or (isinstance(node, ast.ImportFrom) and not at_top):
        package.say("L2", file, node)
    elif not isinstance(node, STATEMENTS) and not (at_top and isinstance(node, (ast.ClassDef, ast.ImportFrom))):
        package.say("L6", file, node)
    if isinstance(node, ast.Raise) and node.exc is not None:
        if not (isinstance(node.exc, ast.Call) and isinstance(node.exc.func, ast.Name) and package.is_error(node.exc.func.id)):
            package.say("L19", file, node)
    if isinstance(node, ast.Try):
        if node.finalbody:
            package.say("L6", file, node)
        for handler in node.handlers:
            caught = handler.type.elts if isinstance(handler.type, ast.Tuple) else [handler.type]
            for one in caught:
                own = isinstance(one, ast.Name) and (one.id in package.errors or one.id in ("KeyError", "ZeroDivisionError"))
                if not own:
                    package.say("L19", file, handler)
    for target in getattr(node, "targets", []) + [getattr(node, "target", None)]:
        if isinstance(target, ast.Attribute):
            if not isinstance(target.value, ast.Name) or target.value.id in package.defined[file]:
                package.say("L18", file, node)
            if target.attr in NO_ATTRIBUTES or (target.attr in METHODS and target.attr not in FREE_ATTRIBUTES):
                package.say("L26", file, node)
    if isinstance(node, ast.For):
        look_at_loop(package, file, node)


def look_at_loop(package, file, node):
    """L23: what a loop iterates over is not changed in it."""
    over = node.iter
    while isinstance(over, ast.Call) and over.args and called(over) in ("enumerate", "zip", "reversed"):
        over = over.args[0]
    if isinstance(over, ast.Call) and isinstance(over.func, ast.Attribute):
        over = over.func.value
    if not isinstance(over, (ast.Name, ast.Attribute)):
        return
    same = ast.unparse(over)
    for one in [inner for row in node.body for inner in ast.walk(row)]:
        if isinstance(one, ast.Call) and isinstance(one.func, ast.Attribute) and one.func.attr in CHANGING:
            if ast.unparse(one.func.value) == same:
                package.say("L23", file, one)
        if isinstance(one, ast.Subscript) and not isinstance(one.ctx, ast.Load) and ast.unparse(one.value) == same:
            package.say("L23", file, one)
        if isinstance(one, ast.AugAssign) and ast.unparse(one.target) == same:
            package.say("L23", file, one)


def look_at_expression(package, file, node):
    """L7, L13, L20, L22, L27: the kinds of expressions."""
    if not isinstance(node, EXPRESSIONS):
        package.say("L7", file, node)
    if isinstance(node, ast.BinOp) and isinstance(node.op, (ast.Div, ast.MatMult)):
        package.say("L7", file, node)
    if isinstance(node, ast.BinOp) and isinstance(node.op, ast.Pow):
        if not (isinstance(node.right, ast.Constant) and node.right.value in range(65)):
            package.say("L27", file, node)
    if isinstance(node, ast.Constant) and isinstance(node.value, (float, complex)):
        package.say("L7", file, node)
    if isinstance(node, ast.Constant) and isinstance(node.value, str):
        look_at_string(package, file, node)
    if isinstance(node, ast.Constant) and isinstance(node.value, int) and abs(node.value) >= 10 ** 900:
        package.say("L27", file, node)
    if isinstance(node, ast.Subscript):
        look_at_kept(package, file, node)
    if isinstance(node, COMPREHENSIONS):
        many = len(node.generators), sum(len(one.ifs) for one in node.generators)
        if many[0] > 6 or many[1] > 12 or package.function_around(node) is None:
            package.say("L7", file, node)
    if isinstance(node, ast.Compare) and any(isinstance(sign, (ast.Is, ast.IsNot)) for sign in node.ops):
        if not all(isinstance(one, ast.Constant) and one.value in (None, True, False) for one in node.comparators):
            package.say("L20", file, node)
    if isinstance(node, ast.Set) and len([one for one in node.elts if isinstance(one, ast.Constant)]) > 2:
        if any(isinstance(one, ast.Constant) and isinstance(one.value, int) for one in node.elts):
            package.say("L13", file, node)
    if isinstance(node, ast.FormattedValue):
        written = node.format_spec.values if node.format_spec else []
        if node.conversion == 97 or any(not isinstance(one, ast.Constant) or not FORMAT.match(one.value) for one in written):
            package.say("L7", file, node)


def look_at_lambdas(package, file, tree):
    """L13: no two lambdas with the same parameters stand on one line."""
    found = [(node.lineno, ast.unparse(node.args)) for node in ast.walk(tree) if isinstance(node, ast.Lambda)]
    if len(set(found)) != len(found):
        package.say("L13", file, tree)


def look_at_kept(package, file, node):
    """L15: nothing at module level has its items set or removed."""
    if isinstance(node.ctx, ast.Load):
        return
    inner = node.value
    while isinstance(inner, ast.Subscript):
        inner = inner.value
    if isinstance(inner, ast.Name) and inner.id in package.defined[file]:
        package.say("L15", file, node)


def look_at_string(package, file, node):
    text = node.value
    if FRAMES.search(text):
        package.say("L27", file, node)
    if text.endswith("._") or text.endswith(".__") or re.fullmatch("__.*__", text):
        package.say("L27", file, node)


def look_at_name_use(package, file, node):
    """L18, L22: functions of Python's own are called, not kept; classes are called, named in isinstance, or caught."""
    if not isinstance(node.ctx, ast.Load):
        return
    above = package.above[node]
    is_called = isinstance(above, ast.Call) and above.func == node
    if node.id in CALLED and not is_called:
        kind = node.id in KINDS and in_isinstance(package, node)
        if not kind and not (isinstance(above, ast.keyword) and above.arg == "key"):
            package.say("L22", file, node)
    if node.id in package.classes or node.id in OWN_ERRORS_ABOVE:
        good = is_called or in_isinstance(package, node) or isinstance(above, (ast.ClassDef, ast.ExceptHandler, ast.Raise))
        good = good or (isinstance(above, ast.Tuple) and isinstance(package.above[above], ast.ExceptHandler))
        if not good and not (isinstance(above, ast.Attribute) and above.attr == "__init__"):
            package.say("L18", file, node)


def in_isinstance(package, node):
    """Whether it stands as what an isinstance asks for."""
    above = package.above[node]
    if isinstance(above, ast.Tuple):
        node, above = above, package.above[above]
    return called(above) == "isinstance" and len(above.args) == 2 and above.args[1] == node


def look_at_call(package, file, node):
    """L15, L22, L23, L25: what is called, with what."""
    name = called(node)
    if isinstance(node.func, ast.Name) and name in CALLED:
        allowed = {"sorted": ("key", "reverse"), "min": ("key", "default"), "max": ("key", "default"), "sum": ("start",),
                   "enumerate": ("start",), "zip": ("strict",)}.get(name, ())
        if any(one.arg not in allowed for one in node.keywords):
            package.say("L22", file, node)
        if any(isinstance(one, ast.Starred) for one in node.args) and name not in ("max", "min", "zip"):
            package.say("L7", file, node)
    if isinstance(node.func, ast.Attribute) and name not in package.methods:
        if name not in METHODS or node.keywords:
            package.say("L25", file, node)
        if name == "join" and not isinstance(node.func.value, ast.Constant):
            package.say("L23", file, node)
        if name in CHANGING and isinstance(node.func.value, ast.Name) and node.func.value.id in package.defined[file]:
            package.say("L15", file, node)
    if not isinstance(node.func, (ast.Name, ast.Attribute)):
        package.say("L7", file, node)
    if name in AT_ONCE and not is_iterated(package, node):
        package.say("L23", file, node)
    look_at_own_call(package, file, node)


def is_iterated(package, node):
    above = package.above[node]
    if isinstance(above, (ast.For, ast.comprehension)):
        return above.iter == node
    if called(above) == "join":
        return isinstance(above.func.value, ast.Constant)
    return called(above) in TAKES_ALL and node in above.args


def heads_of_call(package, file, node):
    """The functions or methods that a call may mean, and how many arguments are passed by themselves."""
    if isinstance(node.func, ast.Attribute):
        heads = [one for cls in package.classes.values() for one in cls.body if isinstance(one, ast.FunctionDef)]
        return [one for one in heads if one.name == node.func.attr and one.name not in METHODS], 1
    if not isinstance(node.func, ast.Name) or node.func.id not in package.defined[file]:
        return [], 0
    if node.func.id in package.classes:
        own = package.classes[node.func.id]
        return [one for one in own.body if isinstance(one, ast.FunctionDef) and one.name == "__init__"], 1
    tops = [one for tree in package.trees.values() for one in tree.body]
    return [one for one in tops if isinstance(one, ast.FunctionDef) and one.name == node.func.id], 0


def look_at_own_call(package, file, node):
    """L22: a call of an own function, class or method passes what it takes."""
    heads, own = heads_of_call(package, file, node)
    if len(heads) != 1 or package.function_around(node) is None:
        return
    takes = heads[0].args
    names = [one.arg for one in takes.args][own:]
    if takes.vararg or takes.kwarg or takes.kwonlyargs or any(isinstance(one, ast.Starred) for one in node.args):
        return
    passed = names[:len(node.args)] + [one.arg for one in node.keywords]
    needed = names[:len(names) - len(takes.defaults)]
    wrong = len(node.args) > len(names) or sorted(set(passed)) != sorted(passed) or not set(passed) <= set(names)
    if wrong or not set(needed) <= set(passed):
        package.say("L22", file, node)


def tables_of(package, file):
    """The names of all lists and dicts at module level that a file knows, imported ones too."""
    made = {}
    for other, tree in package.trees.items():
        for one in tree.body:
            if isinstance(one, ast.Assign) and isinstance(one.value, (ast.List, ast.Dict)):
                made.setdefault(other, []).extend(bound_at_top(one))
    known = list(made.get(file, []))
    for one in package.trees[file].body:
        if isinstance(one, ast.ImportFrom):
            other = (one.module or "").split(".")[-1] + ".py"
            known.extend(alias.asname or alias.name for alias in one.names if alias.name in made.get(other, []))
    return known


def look_at_tables(package, file, tree):
    """L15: a list or dict at module level is only read where it stands."""
    known = tables_of(package, file)
    for node in ast.walk(tree):
        if not isinstance(node, ast.Name) or not isinstance(node.ctx, ast.Load) or node.id not in known:
            continue
        above = package.above[node]
        read = isinstance(above, ast.Subscript) and above.value == node
        read = read or (isinstance(above, ast.Compare) and above.left != node)
        read = read or (isinstance(above, (ast.For, ast.comprehension)) and above.iter == node)
        read = read or (isinstance(above, ast.Call) and called(above) in ("len", "list", "dict", "sorted", "tuple"))
        read = read or (isinstance(above, ast.Attribute) and above.attr in ("get", "items", "keys", "values", "index", "count"))
        if not read:
            package.say("L15", file, node)


def look_at_handlers(package, file, tree):
    """L19: the name of a caught error is nothing else's in its function."""
    for function in ast.walk(tree):
        if not isinstance(function, ast.FunctionDef):
            continue
        inside = list(ast.walk(function))
        caught = [one.name for one in inside if isinstance(one, ast.ExceptHandler) and one.name]
        given = [one.id for one in inside if isinstance(one, ast.Name) and isinstance(one.ctx, ast.Store)]
        given += [one.arg for one in inside if isinstance(one, ast.arg)]
        if len(set(caught)) != len(caught) or set(caught) & set(given):
            package.say("L19", file, function)


def look_at_set(package, file, node):
    """L24: a set stands behind in, beside == of another one, in sorted or in len, or joined with others there."""
    above = package.above[node]
    while isinstance(above, ast.BinOp) and isinstance(above.op, (ast.Sub, ast.BitAnd, ast.BitOr, ast.BitXor)):
        node, above = above, package.above[above]
    if isinstance(above, ast.Compare) and isinstance(above.ops[0], (ast.In, ast.NotIn, ast.Eq, ast.NotEq)):
        return
    if called(above) not in ("sorted", "len") or above.keywords or not isinstance(above.func, ast.Name):
        package.say("L24", file, node)


def look_at_attributes(package):
    """L18: no name is a method and an attribute; an attribute that is read is set somewhere."""
    for file, tree in package.trees.items():
        for node in ast.walk(tree):
            if not isinstance(node, ast.Attribute) or not isinstance(node.ctx, ast.Load):
                continue
            above = package.above[node]
            is_call = isinstance(above, ast.Call) and above.func == node
            if not is_call and node.attr not in package.attributes:
                package.say("L18", file, node)


def look_at_sort(package):
    """L25: where a class has __eq__ or __len__, nothing is sorted in place."""
    if not package.methods & {"__eq__", "__len__"}:
        return
    for file, tree in package.trees.items():
        for node in ast.walk(tree):
            if called(node) == "sort":
                package.say("L25", file, node)


def complaints(files):
    """A rising list of (rule, file, line), of a dict of the texts of the files of a package by their names."""
    package = Package(files)
    for file, tree in package.trees.items():
        look_at_file(package, file, files[file], tree)
        look_at_top(package, file, tree)
        look_at_locals(package, file, tree)
        look_at_lambdas(package, file, tree)
        look_at_tables(package, file, tree)
        look_at_handlers(package, file, tree)
        for node in ast.walk(tree):
            look_at_names(package, file, node)
            if isinstance(node, ast.stmt):
                look_at_statement(package, file, node)
            if isinstance(node, ast.expr):
                look_at_expression(package, file, node)
            if isinstance(node, ast.FunctionDef):
                look_at_function(package, file, node)
            if isinstance(node, ast.ClassDef):
                look_at_class(package, file, node)
            if isinstance(node, ast.Name):
                look_at_name_use(package, file, node)
            if isinstance(node, ast.Call):
                look_at_call(package, file, node)
            if isinstance(node, (ast.Set, ast.SetComp)) or called(node) == "set":
                look_at_set(package, file, node)
    look_at_circles(package)
    look_at_attributes(package)
    look_at_sort(package)
    return sorted(set(package.found))
