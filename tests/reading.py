"""Reads the files of the package and tells where they break a rule of LANGUAGE.md.

Pieces of Python that LANGUAGE.md allows under long conditions, and that the package
does without, are refused altogether: `match`, lambdas, nested functions, generator
expressions, annotations, class values, slots, `super`, `map`, and a `try` that catches
one of Python's own errors. Whoever needs one of them adds its conditions here first.
"""

import ast
import builtins
import io
import re
import tokenize

ERROR_CLASSES = {
    "Exception", "ValueError", "TypeError", "KeyError", "IndexError", "LookupError", "ZeroDivisionError",
    "ArithmeticError", "OverflowError", "RuntimeError", "NotImplementedError",
}
BUILTINS = ERROR_CLASSES | {
    "len", "range", "enumerate", "zip", "min", "max", "sum", "abs", "sorted", "reversed", "int", "str", "bool", "list",
    "tuple", "dict", "set", "isinstance", "ord", "repr", "any", "all", "divmod", "iter", "property", "classmethod",
    "staticmethod",
}
# The interpreter's own prompt, and doctest like it, keep the last value as a builtin `_`.
ALL_BUILTINS = {name for name in vars(builtins) if name != "_"}
BUILTIN_METHODS = set(
    "append clear copy count endswith extend find get index insert isalnum isalpha isdigit islower isspace isupper items join"
    " keys ljust lower lstrip partition pop remove replace reverse rfind rjust rpartition rsplit rstrip setdefault split"
    " splitlines startswith strip update upper values zfill bit_length removeprefix".split()
)
SET_METHODS = {"add", "discard"}
MODIFYING = set("append clear extend insert pop remove reverse setdefault update add discard sort".split())
BARRED_ATTRIBUTES = set(
    "items keys values pop update append clear extend insert remove reverse setdefault sort args encode decode hex fromhex"
    " format format_map mro as_integer_ratio bit_count conjugate from_bytes is_integer to_bytes".split()
)
FREE_ATTRIBUTES = set("count index title find get join lower upper split strip copy add".split())
OF_BUILTIN_VALUES = {name for kind in (str, int, list, dict, set, bytes, tuple) for name in dir(kind)}
OPERATORS = set("__or__ __and__ __sub__ __contains__ __getitem__".split())
METHODS = OPERATORS | set("__init__ __eq__ __repr__ __str__ __len__ __iter__ __call__ __enter__ __exit__".split())
PIECES = {getattr(ast, name) for name in (
    "Module FunctionDef ClassDef Return Delete Assign AugAssign For While If Raise Assert ImportFrom Expr Pass Break Continue"
    " BoolOp BinOp UnaryOp IfExp Dict Set ListComp SetComp DictComp Yield YieldFrom Compare Call FormattedValue JoinedStr"
    " Constant Attribute Subscript Starred Name List Tuple Slice Load Store Del And Or Add Sub Mult Mod Pow LShift RShift BitOr"
    " BitXor BitAnd FloorDiv Invert Not UAdd USub Eq NotEq Lt LtE Gt GtE Is IsNot In NotIn comprehension arguments arg keyword"
    " alias Try ExceptHandler With withitem"
).split()}
NOWHERE = set("register mro elements open input law version_info with_traceback add_note super map next".split())
NOT_BOUND = set(
    "attrgetter breakpoint builtins compile copyright credits delattr dir eval exec exit gc getattr globals hasattr help id"
    " importlib license locals methodcaller os quit setattr type vars sys __name__".split()
)
WORDS = (
    "type typing typing_extensions enum Enum IntEnum StrEnum Flag IntFlag Generic Protocol ABC ABCMeta namedtuple NamedTuple"
    " TypedDict TYPE_CHECKING abstractmethod".split()
)
LONGER_WORDS = ("dataclass", "overload", "contextmanager")
FRAMES = re.compile(r"^(f|tb|co|gi|cr|ag)_[a-z]")
PLAIN_NAME = re.compile(r"^_?[A-Za-z][A-Za-z0-9_]*$")
BARRED_NAMES = re.compile(
    r"^(_wall|_pe_|_dcw_|_enum_|_cm_|_twin_re_|_lay_|_law_|_stub_|_sre|_WallAttr)"
    r"|^(_cold|_tuplegetter|_outside|_record|_written_out|_member_names)[0-9_]*$"
)
BARRED_FILES = re.compile(r"^(law_.*|test.*|testing|site|conftest|sitecustomize|usercustomize|heapq|math|itertools)$")
SINGLE = {"None", "True", "False"}
VIEWS = {"items", "keys", "values"}
AT_ONCE = {"zip", "enumerate", "reversed", "range"}
TAKERS = {"list", "tuple", "dict", "sorted", "sum", "any", "all", "enumerate", "zip", "min", "max"}
KEYWORDS = {
    "sorted": {"key", "reverse"}, "min": {"key", "default"}, "max": {"key", "default"}, "sum": {"start"},
    "enumerate": {"start"}, "zip": {"strict"},
}
TIMES = {
    "len": (1, 1), "range": (1, 3), "enumerate": (1, 2), "abs": (1, 1), "sorted": (1, 1), "reversed": (1, 1), "ord": (1, 1),
    "isinstance": (2, 2), "any": (1, 1), "all": (1, 1), "sum": (1, 2), "list": (0, 1), "tuple": (0, 1), "dict": (0, 1),
    "set": (0, 1), "str": (0, 1), "int": (0, 2), "bool": (0, 1), "repr": (1, 1), "divmod": (2, 2), "iter": (1, 1),
}


class File:
    """One file, with its tree and what stands around each piece of it."""

    def __init__(self, path, text):
        self.path = path
        self.text = text
        self.tree = ast.parse(text)
        self.module = path[:-3].replace("/", ".")
        self.around = {}
        for piece in ast.walk(self.tree):
            for inner in ast.iter_child_nodes(piece):
                self.around[inner] = piece
        self.pieces = list(ast.walk(self.tree))
        self.functions = [piece for piece in self.pieces if isinstance(piece, ast.FunctionDef)]
        self.classes = [piece for piece in self.tree.body if isinstance(piece, ast.ClassDef)]
        self.docstrings = set()
        for piece in [self.tree] + self.functions + self.classes:
            first = piece.body[0] if piece.body else None
            if isinstance(first, ast.Expr) and isinstance(first.value, ast.Constant) and isinstance(first.value.value, str):
                self.docstrings.add(first.value)

    def within(self, piece, kind):
        """The nearest piece of a kind around a piece, or None."""
        while piece in self.around:
            piece = self.around[piece]
            if isinstance(piece, kind):
                return piece
        return None

    def bound(self):
        """The pairs of the names that stand at module level and the pieces that bind them."""
        for piece in self.tree.body:
            if isinstance(piece, ast.ImportFrom):
                for alias in piece.names:
                    yield alias.name, piece
            elif isinstance(piece, (ast.FunctionDef, ast.ClassDef)):
                yield piece.name, piece
            elif isinstance(piece, ast.Assign) and isinstance(piece.targets[0], ast.Name):
                yield piece.targets[0].id, piece


class Package:
    """All files, with what they define."""

    def __init__(self, texts):
        self.files = [File(path, text) for path, text in texts.items() if path.endswith(".py")]
        self.paths = list(texts)
        self.classes = {piece.name: piece for file in self.files for piece in file.classes}
        self.plain = {}
        self.methods = {}
        self.properties = set()
        self.attributes = set()
        self.generators = set()
        for file in self.files:
            for function in file.functions:
                home = file.around[function]
                kind = self.methods if isinstance(home, ast.ClassDef) else self.plain
                kind.setdefault(function.name, []).append(function)
                if decorators_of(function) == ["property"]:
                    self.properties.add(function.name)
                if any(isinstance(piece, (ast.Yield, ast.YieldFrom)) for piece in ast.walk(function)):
                    self.generators.add(function.name)
            for piece in file.pieces:
                if isinstance(piece, ast.Attribute) and isinstance(piece.ctx, ast.Store):
                    self.attributes.add(piece.attr)
        self.errors = set(ERROR_CLASSES)
        for _ in self.classes:
            for name, piece in self.classes.items():
                if any(isinstance(base, ast.Name) and base.id in self.errors for base in piece.bases):
                    self.errors.add(name)


def decorators_of(function):
    return [ast.unparse(piece) for piece in function.decorator_list]


def called_name(piece):
    """The bare name that a call calls, or None."""
    return piece.func.id if isinstance(piece, ast.Call) and isinstance(piece.func, ast.Name) else None


def called_method(piece):
    """The name of the method that a call calls, or None."""
    return piece.func.attr if isinstance(piece, ast.Call) and isinstance(piece.func, ast.Attribute) else None


def is_plain(piece):
    """Whether a value at module level is written out, with tuples at most."""
    if isinstance(piece, ast.UnaryOp) and isinstance(piece.op, ast.USub):
        return isinstance(piece.operand, ast.Constant)
    return isinstance(piece, ast.Constant) or isinstance(piece, ast.Tuple) and all(map(is_plain, piece.elts))


def is_table(piece, above):
    """Whether a value at module level is a dict from values that are written out to such, or to functions above."""
    if not isinstance(piece, ast.Dict) or not all(key is not None and is_plain(key) for key in piece.keys):
        return False
    return all(is_plain(value) or isinstance(value, ast.Name) and value.id in above for value in piece.values)


def is_name_or_literal(piece):
    """Whether a piece is a name, an attribute off names, or a value that is written out."""
    if isinstance(piece, ast.Attribute):
        return is_name_or_literal(piece.value)
    if isinstance(piece, ast.Tuple):
        return all(map(is_name_or_literal, piece.elts))
    return isinstance(piece, ast.Name) or is_plain(piece)


def read_paths(package):
    names = {}
    folders = {path.rsplit("/", 1)[0] for path in package.paths}
    for path in package.paths:
        folder, name = path.rsplit("/", 1)
        names.setdefault(folder, set()).add(name)
        stem = name[:-3]
        if not name.endswith(".py") or not re.match(r"^([a-z][a-z0-9_]*|__init__|__main__)$", stem):
            yield path, 1, "L1", "not a .py file with a plain name"
        if stem == "__main__" and folder != "askable":
            yield path, 1, "L14", "__main__.py stands only at the top"
        for part in folder.split("/")[1:] + [stem]:
            if BARRED_FILES.match(part) or part in NOWHERE | NOT_BOUND | ALL_BUILTINS:
                yield path, 1, "L14", "a name that no file or folder has"
        if path[:-3] in folders:
            yield path, 1, "L14", "a file with the name of a folder beside it"
    for folder in folders:
        if "__init__.py" not in names[folder]:
            yield folder, 1, "L14", "a folder without __init__.py"
    if len(package.paths) > 100:
        yield "askable", 1, "L14", "more than 100 files"


def read_lines(file):
    for number, line in enumerate(file.text.split("\n"), 1):
        if len(line) > 120:
            yield number, "L10", "a line of more than 120 characters"
        if any(not " " <= letter <= "~" for letter in line):
            yield number, "L14", "a character that is not plain"
        if re.search(r"_wall\b|_WallAttr", line):
            yield number, "L12", "a word that stands nowhere"
        if re.search(r"\(type\)|Meta|metaclass=", line):
            yield number, "L17", "a word that stands nowhere beside __getitem__"
    if len(file.text.splitlines()) > 399:
        yield 400, "L10", "more than 399 lines"
    if file.text and not file.text.endswith("\n"):
        yield 1, "L14", "no line feed at the end"
    for function in file.functions:
        first = min([function.lineno] + [piece.lineno for piece in function.decorator_list])
        if function.end_lineno - first + 1 > 40:
            yield function.lineno, "L10", "a function of more than 40 lines"


def read_tokens(file):
    docstrings = {(piece.lineno, piece.col_offset) for piece in file.docstrings}
    for token in tokenize.generate_tokens(io.StringIO(file.text).readline):
        line = token.start[0]
        if token.type == tokenize.NAME:
            yield from [(line,) + told for told in read_name(token.string)]
        if token.type == tokenize.STRING:
            yield from [(line,) + told for told in read_string(token.string, token.start in docstrings)]


def read_name(name):
    if name in WORDS or any(word in name for word in LONGER_WORDS):
        yield "L17", f"the word {name}"
    if name in NOWHERE or FRAMES.match(name):
        yield "L17", f"the name {name}"
    if BARRED_NAMES.match(name):
        yield "L12", f"the name {name}"
    if name != "_" and not PLAIN_NAME.match(name) and name not in METHODS:
        yield "L8", f"the name {name}"


def read_string(text, is_docstring):
    prefix, body = re.match(r"^([a-zA-Z]*)(.*)$", text, re.S).groups()
    if prefix not in ("", "f"):
        yield "L27", "a string with another prefix than f"
    quote = '"""' if body.startswith('"""') else body[0]
    inner = body[len(quote):-len(quote)]
    if "%" in inner:
        yield "L27", "a percent sign in a string"
    if re.search(r"\\[^nt\\'\"]", inner.replace("\\\\", "")):
        yield "L27", "an escape that is not allowed"
    if inner.endswith("._") or inner.endswith(".__"):
        yield "L27", "a string that ends in ._"
    if len(inner) > 3 and inner.startswith("__") and inner.endswith("__"):
        yield "L27", "a string between underscores"
    if FRAMES.match(inner) or re.search(r"[{.](_\w*_|__)", inner) and " " not in inner:
        yield "L27", "a string with the name of a part of Python"
    words = re.findall(r"\w+", inner)
    if not is_docstring and any(word in WORDS and word != "type" for word in words):
        yield "L17", "a word that no string has"
    if any(long in word for word in words for long in LONGER_WORDS):
        yield "L17", "a word that no string has"


def read_pieces(file):
    for piece in file.pieces:
        line = getattr(piece, "lineno", 1)
        if piece.__class__ not in PIECES:
            yield line, "L6, L7", f"a piece of Python that is not used: {piece.__class__.__name__}"
        if isinstance(piece, ast.Constant) and not isinstance(piece.value, (int, str, type(None))):
            yield line, "L7", "a value that is no integer, string, True, False or None"
        if isinstance(piece, ast.BinOp) and isinstance(piece.op, ast.Pow) and not isinstance(piece.right, ast.Constant):
            yield line, "L27", "a power whose exponent is not written out"
        if isinstance(piece, ast.Compare) and any(isinstance(op, (ast.Is, ast.IsNot)) for op in piece.ops):
            if not all(isinstance(part, ast.Constant) and repr(part.value) in SINGLE for part in piece.comparators):
                yield line, "L20", "is beside something else than None, True and False"
        if isinstance(piece, ast.arg) and piece.annotation is not None or getattr(piece, "returns", None) is not None:
            yield line, "L21", "an annotation"
        if isinstance(piece, (ast.ListComp, ast.SetComp, ast.DictComp)):
            if file.within(piece, ast.FunctionDef) is None:
                yield line, "L7", "a comprehension outside of a function"
            if len(piece.generators) > 6 or sum(len(part.ifs) for part in piece.generators) > 12:
                yield line, "L7", "a comprehension with too many parts"
        if isinstance(piece, ast.Starred) and not isinstance(file.around[piece], (ast.Call, ast.List, ast.Tuple)):
            yield line, "L7", "a star at another place"
        if isinstance(piece, ast.Expr) and not isinstance(piece.value, (ast.Call, ast.Yield, ast.YieldFrom)):
            if piece.value not in file.docstrings:
                yield line, "L6", "a value on its own"
        if isinstance(piece, (ast.Yield, ast.YieldFrom)) and not isinstance(file.around[piece], ast.Expr):
            yield line, "L23", "a yield that is no statement of its own"
        if isinstance(piece, ast.Raise):
            if called_name(piece.exc) is None or piece.cause is not None:
                yield line, "L19", "a raise that does not create its error on the spot"
        if isinstance(piece, ast.Assert) and isinstance(piece.test, ast.Tuple):
            yield line, "L6", "an assert of a tuple"
        if isinstance(piece, ast.Set):
            numbers = [part for part in piece.elts if isinstance(part, ast.Constant) and isinstance(part.value, int)]
            if len(numbers) > 2:
                yield line, "L13", "a literal set of three integers"


def read_module_level(file):
    is_top = True
    above = set()
    for piece in file.tree.body:
        if isinstance(piece, ast.FunctionDef):
            above.add(piece.name)
        if isinstance(piece, ast.ImportFrom):
            if not is_top:
                yield piece.lineno, "L2", "an import that does not stand at the top"
        elif not (isinstance(piece, ast.Expr) and piece.value in file.docstrings):
            is_top = False
            if isinstance(piece, ast.Assign):
                fits = is_plain(piece.value) or is_table(piece.value, above)
                if len(piece.targets) > 1 or not isinstance(piece.targets[0], ast.Name) or not fits:
                    yield piece.lineno, "L3, L15", "no plain value under one name at module level"
            elif isinstance(piece, ast.Import):
                yield piece.lineno, "L2", "an import of a whole module"
            elif not isinstance(piece, (ast.FunctionDef, ast.ClassDef)):
                yield piece.lineno, "L3", "another statement at module level"
    names = [name for name, _ in file.bound()]
    for name, piece in file.bound():
        if names.count(name) > 1:
            yield piece.lineno, "L15", f"{name} is bound twice at module level"
    for piece in file.pieces:
        if isinstance(piece, ast.ClassDef) and piece not in file.tree.body:
            yield piece.lineno, "L15", "a class that does not stand at module level"


def read_tables(file):
    """Dicts at module level are only read, and a function is taken from them by a name of its own."""
    tables = {
        piece.targets[0].id for piece in file.tree.body if isinstance(piece, ast.Assign) and isinstance(piece.value, ast.Dict)
    }
    for piece in file.pieces:
        if isinstance(piece, ast.Call) and isinstance(piece.func, ast.Subscript):
            yield piece.lineno, "L3", "a call of an item"
        if isinstance(piece, ast.Name) and isinstance(piece.ctx, ast.Load) and piece.id in tables:
            around = file.around[piece]
            fits = isinstance(around, ast.Subscript) and around.value is piece and isinstance(around.ctx, ast.Load)
            fits = fits or isinstance(around, ast.Attribute) and around.attr == "get" or isinstance(around, ast.Compare)
            if not fits and called_name(around) not in ("len", "list", "dict", "sorted", "tuple"):
                yield piece.lineno, "L15", f"the dict {piece.id} is not only read"


def read_imports(package):
    by_module = {file.module: file for file in package.files}
    reach = {}
    for file in package.files:
        used = {piece.id for piece in file.pieces if isinstance(piece, ast.Name)}
        for piece in file.pieces:
            if not isinstance(piece, ast.ImportFrom):
                continue
            source = by_module.get(piece.module)
            reach.setdefault(file.module, set()).add(piece.module)
            whole = [alias for alias in piece.names if alias.name == "*"]
            if piece.level or whole or source is None or piece.module.endswith("__init__"):
                yield file.path, piece.lineno, "L2", "an import from elsewhere than a file of the package, by its full name"
                continue
            own = {name for name, made in source.bound() if not isinstance(made, ast.ImportFrom)}
            for alias in piece.names:
                if alias.asname or alias.name not in own:
                    yield file.path, piece.lineno, "L16", f"{alias.name} is not defined in the file that is named"
                if alias.name not in used:
                    yield file.path, piece.lineno, "L16", f"{alias.name} is not used"
    for module in list(reach):
        seen, left = set(), [module]
        while left:
            for other in reach.get(left.pop(), ()):
                if other not in seen:
                    seen.add(other)
                    left.append(other)
        if module in seen:
            yield by_module[module].path, 1, "L16", "files that import from each other"


def read_functions(file, package):
    outer = {name for name, piece in file.bound() if isinstance(piece, (ast.ImportFrom, ast.ClassDef))}
    for function in file.functions:
        home = file.around[function]
        line = function.lineno
        arguments = function.args
        told = decorators_of(function)
        if not isinstance(home, (ast.Module, ast.ClassDef)):
            yield line, "L4", "a nested function"
        if told and (not isinstance(home, ast.ClassDef) or told not in (["property"], ["classmethod"], ["staticmethod"])):
            yield line, "L4", "a decorator"
        if arguments.posonlyargs or arguments.kw_defaults and not isinstance(home, (ast.Module, ast.ClassDef)):
            yield line, "L4", "a parameter that is passed by position only"
        if arguments.kwonlyargs and (function.name in BUILTIN_METHODS or function.name.startswith("__")):
            yield line, "L4", "a parameter that is passed by keyword, of a method that has none"
        if not all(is_plain(value) for value in arguments.defaults + [part for part in arguments.kw_defaults if part]):
            yield line, "L4", "a default value that is not plain"
        if function.name.startswith("__") and function.name != "__init__":
            if arguments.vararg or arguments.kwarg or arguments.defaults or told:
                yield line, "L4, L5", "a parameter that such a method does not have"
        if function.name.startswith("__") and not isinstance(home, ast.ClassDef):
            yield line, "L28", "such a method outside of a class"
        for name, where in local_names(function):
            if name in outer:
                yield where, "L15", f"{name} is a class or an import of this file"
        loads = {piece.id for piece in ast.walk(function) if isinstance(piece, ast.Name) and isinstance(piece.ctx, ast.Load)}
        if "_" in loads:
            yield line, "L12", "_ is read"
    for piece in file.pieces:
        if isinstance(piece, (ast.FunctionDef, ast.ClassDef)):
            names = [(piece.name, piece.lineno)]
            names += local_names(piece) if isinstance(piece, ast.FunctionDef) else []
            for name, where in names:
                is_method = isinstance(file.around[piece], ast.ClassDef) and name == piece.name
                if name in BUILTINS if is_method else name in ALL_BUILTINS:
                    yield where, "L8, L15", f"{name} has the name of a builtin"
                if name in NOT_BOUND:
                    yield where, "L17", f"the name {name}"
        if isinstance(piece, ast.Name) and isinstance(piece.ctx, ast.Load) and piece.id in ALL_BUILTINS:
            if piece.id not in BUILTINS:
                yield piece.lineno, "L8", f"the builtin {piece.id}"


def local_names(function):
    """The pairs of the parameters and local variables of a function, and their lines."""
    found = []
    for piece in ast.walk(function):
        if isinstance(piece, ast.arg):
            found.append((piece.arg, piece.lineno))
        if isinstance(piece, ast.Name) and isinstance(piece.ctx, ast.Store):
            found.append((piece.id, piece.lineno))
    return found


def read_classes(file, package):
    for piece in file.classes:
        line = piece.lineno
        methods = [part for part in piece.body if isinstance(part, ast.FunctionDef)]
        names = [method.name for method in methods]
        known = {name for name, made in file.bound() if made.lineno < line} | ERROR_CLASSES
        if piece.decorator_list or piece.keywords or len(piece.bases) > 1:
            yield line, "L5", "a class with a decorator, a keyword or several bases"
        if not all(isinstance(base, ast.Name) and base.id in known for base in piece.bases):
            yield line, "L5", "a base that is no class above, and no error class"
        for part in piece.body:
            if not isinstance(part, ast.FunctionDef) and not (isinstance(part, ast.Expr) and part.value in file.docstrings):
                yield part.lineno, "L5", "a class with something else than methods"
        for method in methods:
            yield from read_method(method, names, package, piece.name in package.errors)
        stored = {
            part.attr for part in ast.walk(piece)
            if isinstance(part, ast.Attribute) and isinstance(part.ctx, ast.Store)
        }
        for name in sorted(stored):
            if name in names or name in package.properties:
                yield line, "L5, L18", f"{name} is an attribute, and a method or a property"
            if name in BARRED_ATTRIBUTES or name in OF_BUILTIN_VALUES and name not in FREE_ATTRIBUTES:
                yield line, "L26", f"the attribute {name}"
        if "__getitem__" in names and "__iter__" not in names:
            yield line, "L5", "__getitem__ without __iter__"


def read_method(method, names, package, is_error):
    line = method.lineno
    name = method.name
    parameters = [part.arg for part in method.args.args]
    if names.count(name) > 1:
        yield line, "L18", f"{name} is defined twice"
    if name.startswith("__") and name not in METHODS:
        yield line, "L5", f"the method {name}"
    if not name.startswith("__") and name in OF_BUILTIN_VALUES and name not in BUILTIN_METHODS | SET_METHODS:
        yield line, "L26", f"the method {name}"
    if name in package.properties and name in OF_BUILTIN_VALUES:
        yield line, "L5", f"the property {name}"
    if name in package.properties and (is_error or len(parameters) != 1 or decorators_of(method) != ["property"]):
        yield line, "L5", f"{name} is a property, and something else"
    if not parameters or name in ("__or__", "__and__", "__sub__", "__eq__") and parameters != ["self", "other"]:
        yield line, "L5", "other parameters than self and other"
    if name == "__call__" and (is_error or method.args.kwonlyargs):
        yield line, "L5", "__call__ in an error class, or with other than plain parameters"
    if method.args.kwarg and name in OPERATORS:
        yield line, "L5", "another parameter of an operator"
    returns = [part for part in ast.walk(method) if isinstance(part, ast.Return)]
    last = method.body[-1]
    if name == "__init__" and returns:
        yield line, "L28", "__init__ returns"
    if name == "__iter__":
        rows = [part for part in method.body if not (isinstance(part, ast.Expr) and isinstance(part.value, ast.Constant))]
        if len(rows) != 1 or not re.match(r"^return iter\(self(\.\w+)+\)$|^raise TypeError\('[^']*'\)$", ast.unparse(rows[0])):
            yield line, "L5", "__iter__ is not one statement over an attribute, or one that raises an error"
    if name in ("__enter__", "__exit__") and is_error:
        yield line, "L6", "an error class with a block"
    if name == "__enter__" and parameters != ["self"] or name == "__exit__" and len(parameters) != 4:
        yield line, "L6", f"other parameters of {name}"
    if name == "__exit__":
        yield from read_exit(method)
    if name == "__eq__" and any(isinstance(part, (ast.Assign, ast.AugAssign)) for part in ast.walk(method)):
        yield line, "L28", "__eq__ assigns something"
    if name in ("__len__", "__str__", "__repr__") and not isinstance(last, ast.Return):
        yield line, "L28", f"{name} does not end with a return"
    for part in returns:
        if name == "__len__" and called_name(part.value) != "len" and not isinstance(part.value, ast.Constant):
            yield line, "L28", "__len__ returns something else than len"
        if name in ("__str__", "__repr__") and not isinstance(part.value, (ast.JoinedStr, ast.Constant)):
            if called_name(part.value) not in ("str", "repr"):
                yield line, "L28", f"{name} returns no string as it must be written"


def is_simple(piece):
    """Whether a piece is an attribute off attributes off a name, or a value that is written out."""
    if isinstance(piece, ast.Attribute):
        return isinstance(piece.value, ast.Name) or is_simple(piece.value)
    return isinstance(piece, ast.Constant)


def read_exit(method):
    """The rows of __exit__ put attributes into attributes of its own object, and read nothing that it is passed."""
    for row in method.body:
        fits = isinstance(row, ast.Assign) and len(row.targets) == 1 and is_simple(row.value)
        if not fits or not isinstance(row.targets[0], ast.Attribute) or ast.unparse(row.targets[0].value) != "self":
            yield row.lineno, "L6", "a row of __exit__ that does something else"


def read_blocks(file, package):
    """What stands around `try` and `with`."""
    own = package.errors - ERROR_CLASSES
    for piece in file.pieces:
        if isinstance(piece, ast.Try):
            names = [handler.type.id if isinstance(handler.type, ast.Name) else None for handler in piece.handlers]
            if piece.finalbody or not names or not set(names) <= own or any(handler.name for handler in piece.handlers):
                yield piece.lineno, "L19", "a try that does not catch errors of the package alone"
        if isinstance(piece, ast.With):
            for item in piece.items:
                fits = isinstance(item.context_expr, (ast.Call, ast.Name, ast.Attribute))
                if not fits or not isinstance(item.optional_vars, (ast.Name, type(None))):
                    yield piece.lineno, "L6", "a with over something else than a call, a name or an attribute"
        if isinstance(piece, (ast.Yield, ast.YieldFrom)) and file.within(piece, (ast.Try, ast.With)):
            yield piece.lineno, "L23", "a yield under a try or a with"


def changes_of(function):
    """The lines at which a function changes something that it did not create itself."""
    created = set()
    for piece in ast.walk(function):
        if isinstance(piece, ast.Assign) and isinstance(piece.targets[0], ast.Name):
            made = isinstance(piece.value, (ast.List, ast.ListComp, ast.Dict))
            if made or called_name(piece.value) in ("list", "dict", "sorted"):
                created.add(piece.targets[0].id)
    for piece in ast.walk(function):
        if isinstance(piece, (ast.Attribute, ast.Subscript)) and not isinstance(piece.ctx, ast.Load):
            is_self = function.name == "__init__" and ast.unparse(piece.value) == "self"
            if not is_self and ast.unparse(piece.value) not in created:
                yield piece.lineno
        if called_method(piece) in MODIFYING and ast.unparse(piece.func.value) not in created:
            yield piece.lineno
        if isinstance(piece, ast.AugAssign):
            yield piece.lineno


def read_operators(package):
    """What operators, properties and the like run changes nothing, also in what they call."""
    starts = [
        function for name, functions in package.methods.items() for function in functions
        if name in OPERATORS | {"__eq__", "__str__", "__repr__", "__len__"} or decorators_of(function) == ["property"]
    ]
    homes = {id(function): file.path for file in package.files for function in file.functions}
    seen, left = set(), list(starts)
    while left:
        function = left.pop()
        if id(function) in seen:
            continue
        seen.add(id(function))
        for line in changes_of(function):
            yield homes[id(function)], line, "L5", f"{function.name} changes something, and an operator or a property runs it"
        for piece in ast.walk(function):
            name, method = called_name(piece), called_method(piece)
            left += package.plain.get(name, []) + (package.methods.get(method, []) if method != "__init__" else [])
            if name in package.classes:
                left += [part for part in package.classes[name].body if getattr(part, "name", "") == "__init__"]
            parameters = [part.arg for part in function.args.args] if isinstance(piece, ast.Call) else []
            if name is not None and name in parameters and name != "cls":
                yield homes[id(function)], piece.lineno, "L5", "an operator or a property calls what it is passed"


def read_class_names(file, package):
    classes = set(package.classes) | ERROR_CLASSES
    for piece in file.pieces:
        if isinstance(piece, ast.Name) and isinstance(piece.ctx, ast.Load) and piece.id in classes:
            around = file.around[piece]
            fits = isinstance(around, ast.ClassDef) or isinstance(around, ast.Call) and around.func is piece
            fits = fits or isinstance(around, ast.Call) and called_name(around) == "isinstance" and around.args[0] is not piece
            fits = fits or isinstance(around, ast.Tuple) and called_name(file.around[around]) == "isinstance"
            fits = fits or isinstance(around, ast.Attribute) and isinstance(file.around[around], ast.Call)
            fits = fits or isinstance(around, ast.ExceptHandler)
            if not fits:
                yield piece.lineno, "L18", f"the class {piece.id} is neither called nor asked for"
        if isinstance(piece, ast.Attribute) and isinstance(piece.ctx, ast.Store):
            top = {name for name, _ in file.bound()}
            if not isinstance(piece.value, ast.Name) or piece.value.id in top | {"cls"}:
                yield piece.lineno, "L18", "an attribute that is not assigned through a local name"
        if isinstance(piece, ast.Attribute) and isinstance(piece.ctx, ast.Load):
            name = piece.attr
            if name.startswith("__"):
                if not (name == "__init__" and isinstance(piece.value, ast.Name) and piece.value.id in package.errors):
                    yield piece.lineno, "L5", f"{name} is read by its name"
            elif name not in package.attributes | package.properties | set(package.methods) | BUILTIN_METHODS | SET_METHODS:
                yield piece.lineno, "L18, L25", f"the attribute {name}, that no class has"


def read_calls(file, package):
    for piece in file.pieces:
        if not isinstance(piece, ast.Call):
            continue
        name, method, line = called_name(piece), called_method(piece), piece.lineno
        words = {keyword.arg for keyword in piece.keywords}
        if name in BUILTINS and name not in ERROR_CLASSES:
            least, most = TIMES.get(name, (0, 99))
            if not words <= KEYWORDS.get(name, set()) or not least <= len(piece.args) <= most:
                yield line, "L22", f"{name} is not called so"
        if name == "isinstance" and len(piece.args) == 2:
            kinds = piece.args[1].elts if isinstance(piece.args[1], ast.Tuple) else [piece.args[1]]
            right = {"int", "str", "bool", "list", "tuple", "dict"} | set(package.classes)
            if not all(isinstance(kind, ast.Name) and kind.id in right for kind in kinds):
                yield line, "L22", "isinstance of another kind"
        if name == "reversed" and called_name(piece.args[0]) not in ("list", "tuple", "sorted", "range"):
            yield line, "L5", "reversed of something else than a list that is made there"
        if name == "iter" and file.within(piece, ast.FunctionDef).name != "__iter__":
            yield line, "L8", "iter outside of __iter__"
        if method is not None:
            is_own = method in package.methods
            if not is_own and method not in BUILTIN_METHODS | SET_METHODS and method != "__init__":
                yield line, "L25", f"the method {method}"
            if method in BUILTIN_METHODS and words or method in VIEWS and piece.args:
                yield line, "L25", f"{method} is called with a keyword"
        for part in piece.args:
            if isinstance(part, ast.Starred):
                inner = part.value
                is_attribute = isinstance(inner, ast.Attribute) and isinstance(inner.value, ast.Name)
                if not isinstance(inner, ast.Name) and not (is_attribute and inner.attr not in package.properties):
                    yield line, "L7", "something else than a name behind a star"
                if name is None and method is None or name in BUILTINS and name not in ("min", "max", "zip"):
                    yield line, "L7", "a star in a call that takes none"
        yield from read_arguments(piece, file, package)
    for piece in file.pieces:
        names = set(package.plain) | (BUILTINS - ERROR_CLASSES - {"int", "str", "bool", "list", "tuple", "dict"})
        if isinstance(piece, ast.Name) and isinstance(piece.ctx, ast.Load) and piece.id in names:
            around = file.around[piece]
            is_local = piece.id in {told for told, _ in local_names(file.within(piece, ast.FunctionDef) or file.tree)}
            is_called = isinstance(around, ast.Call) and around.func is piece
            is_told = isinstance(around, ast.Dict) and file.within(piece, ast.FunctionDef) is None
            if not is_local and not isinstance(around, ast.FunctionDef) and not is_called and not is_told:
                yield piece.lineno, "L22", f"the function {piece.id} is not called"


def read_arguments(piece, file, package):
    """Whether a call of an own function, class or method passes what it takes."""
    name, method = called_name(piece), called_method(piece)
    if name in package.classes:
        found = [part for part in package.classes[name].body if getattr(part, "name", "") == "__init__"]
        own = 1
    elif name in package.plain:
        found, own = package.plain[name], 0
    else:
        found, own = package.methods.get(method, []), 1
        if method in OF_BUILTIN_VALUES or method == "__init__":
            found = []
    if len(found) > 1 or any(isinstance(part, ast.Starred) for part in piece.args):
        return
    for function in found:
        arguments = function.args
        names = [part.arg for part in arguments.args][own:]
        least = len(names) - len(arguments.defaults)
        many = len(piece.args) + len([word for word in piece.keywords if word.arg in names])
        unknown = [word for word in piece.keywords if word.arg not in names + [part.arg for part in arguments.kwonlyargs]]
        if many < least or many > len(names) and not arguments.vararg or unknown and not arguments.kwarg:
            yield piece.lineno, "L22", f"{function.name} does not take these arguments"
    if name in package.classes and name in package.errors and not found:
        if piece.keywords or not all(isinstance(part, (ast.Constant, ast.JoinedStr)) for part in piece.args):
            yield piece.lineno, "L22", f"{name} is passed something else than a string"


def is_iterated(piece, file):
    """Whether a call stands where it is iterated at once."""
    around = file.around[piece]
    if isinstance(around, (ast.For, ast.comprehension)) and around.iter is piece or isinstance(around, ast.YieldFrom):
        return True
    if isinstance(around, ast.Call) and called_name(around) in TAKERS:
        if called_name(around) in ("enumerate", "zip") and not is_iterated(around, file):
            return False
        return around.args[0] is piece or called_name(around) == "zip" and piece in around.args
    return False


def read_iteration(file, package):
    for piece in file.pieces:
        name, method = called_name(piece), called_method(piece)
        around = file.around.get(piece)
        if name in AT_ONCE or method in VIEWS and method not in package.methods:
            tested = isinstance(around, ast.Compare) and piece in around.comparators and name == "range" or method == "keys"
            counted = called_name(around) == "len" and (name == "range" or method == "items")
            if not is_iterated(piece, file) and not tested and not counted:
                if not (called_name(around) == "reversed" and name == "range"):
                    yield piece.lineno, "L23", f"{name or method} is not iterated at once"
        if name in package.generators or method in package.generators:
            if not is_iterated(piece, file):
                yield piece.lineno, "L23", f"the generator {name or method} is not iterated at once"
            if piece.keywords or not all(is_name_or_literal(part) for part in piece.args):
                yield piece.lineno, "L23", f"something else than names and literals beside the generator {name or method}"
        if isinstance(piece, ast.For):
            yield from read_loop(piece)
        if isinstance(piece, ast.FunctionDef) and piece.name in package.generators:
            many = len(package.plain.get(piece.name, [])) + len(package.methods.get(piece.name, []))
            if many > 1 or piece.name in BUILTIN_METHODS:
                yield piece.lineno, "L23", f"{piece.name} is the name of a generator, and of something else"
            if any(isinstance(part, ast.Return) and part.value is not None for part in ast.walk(piece)):
                yield piece.lineno, "L23", "a generator that returns a value"
        if isinstance(piece, (ast.For, ast.comprehension)) and is_set(piece.iter, file):
            yield piece.iter.lineno, "L24", "a set is iterated"


def read_loop(loop):
    """What a loop iterates over is not modified in it."""
    names = {ast.unparse(part) for part in ast.walk(loop.iter) if isinstance(part, (ast.Name, ast.Attribute))}
    for row in loop.body + loop.orelse:
        for piece in ast.walk(row):
            changed = None
            if called_method(piece) in MODIFYING:
                changed = piece.func.value
            if isinstance(piece, ast.Subscript) and not isinstance(piece.ctx, ast.Load):
                changed = piece.value
            if isinstance(piece, ast.AugAssign):
                changed = piece.target
            if changed is not None and ast.unparse(changed) in names:
                yield piece.lineno, "L23", "a loop modifies what it iterates over"


def stored_sets(function):
    """The names of the local variables to which a function assigns a set."""
    return {
        piece.targets[0].id for piece in ast.walk(function)
        if isinstance(piece, ast.Assign) and isinstance(piece.targets[0], ast.Name) and is_written_set(piece.value)
    }


def is_written_set(piece):
    if isinstance(piece, ast.BinOp) and isinstance(piece.op, (ast.Sub, ast.BitAnd, ast.BitOr, ast.BitXor)):
        return is_written_set(piece.left) or is_written_set(piece.right)
    return isinstance(piece, (ast.Set, ast.SetComp)) or called_name(piece) == "set"


def is_set(piece, file):
    function = file.within(piece, ast.FunctionDef)
    is_stored = isinstance(piece, ast.Name) and function is not None and piece.id in stored_sets(function)
    return is_stored or is_written_set(piece)


def read_sets(file):
    for piece in file.pieces:
        if isinstance(piece, (ast.Set, ast.SetComp)) or called_name(piece) == "set":
            place = piece
            while isinstance(file.around[place], ast.BinOp):
                place = file.around[place]
            around = file.around[place]
            fits = called_name(around) in ("sorted", "len") and around.args[0] is place
            fits = fits or isinstance(around, ast.Compare)
            fits = fits or isinstance(around, ast.Assign) and place is piece and isinstance(around.targets[0], ast.Name)
            if not fits:
                yield piece.lineno, "L24", "a set at another place"
        if called_name(piece) == "set" and piece.args and (is_written_set(piece.args[0]) or called_method(piece.args[0]) in VIEWS):
            yield piece.lineno, "L24", "a set of what must be a list first"
    for function in file.functions:
        for name in stored_sets(function):
            uses = [piece for piece in ast.walk(function) if isinstance(piece, ast.Name) and piece.id == name]
            if len([piece for piece in uses if isinstance(piece.ctx, ast.Store)]) > 1:
                yield function.lineno, "L24", f"the set {name} is assigned twice"
            for piece in uses:
                around = file.around[piece]
                fits = isinstance(around, (ast.Assign, ast.Compare, ast.If, ast.While, ast.BoolOp, ast.UnaryOp))
                fits = fits and not (isinstance(around, ast.Assign) and isinstance(piece.ctx, ast.Load))
                fits = fits or called_name(around) in ("len", "sorted")
                fits = fits or isinstance(around, ast.Attribute) and around.attr in SET_METHODS
                fits = fits or isinstance(around, ast.IfExp) and around.test is piece
                if not fits:
                    yield piece.lineno, "L24", f"the set {name} is used otherwise"


def problems(texts):
    """All places at which the files of a package, told by their paths, break a rule."""
    package = Package(texts)
    found = list(read_paths(package)) + list(read_imports(package)) + list(read_operators(package))
    for file in package.files:
        told = []
        for read in (read_lines, read_tokens, read_pieces, read_module_level, read_tables, read_sets):
            told += list(read(file))
        for read in (read_functions, read_classes, read_blocks, read_class_names, read_calls, read_iteration):
            told += list(read(file, package))
        found += [(file.path,) + one for one in told]
    return sorted({f"{rule}: {path}, line {line}: {why}" for path, line, rule, why in found})
