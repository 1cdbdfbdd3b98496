"""Finds what breaks the rules of the language, as far as these can be seen in the files of the package.

The package keeps to less than the rules allow: no generator, no decorator, no operator but ==, a try only with
plain assignments in a finally.
"""

import ast
import builtins
import io
import re
import tokenize

BUILTINS = set("""len range enumerate zip min max sum abs sorted reversed int str bool list tuple dict set isinstance
ord repr any all divmod ValueError""".split())
METHODS = set("""append clear copy count endswith extend find get index insert isalnum isalpha isdigit islower isspace
isupper items join keys ljust lower lstrip partition pop remove replace reverse rfind rjust rpartition rsplit rstrip
setdefault split splitlines startswith strip update upper values zfill bit_length""".split())
SET_METHODS = {"add", "discard"}
NEVER = set("register mro elements open input law version_info with_traceback add_note".split())
NO_NAMES = set("""attrgetter breakpoint builtins compile copyright credits delattr dir eval exec exit gc getattr globals
hasattr help id importlib license locals methodcaller os quit setattr super type vars sys""".split())
NO_WORDS = set("""type typing typing_extensions enum Enum IntEnum StrEnum Flag IntFlag Generic Protocol ABC ABCMeta
namedtuple NamedTuple TypedDict TYPE_CHECKING abstractmethod""".split())
DOUBLE = {"__init__", "__eq__", "__len__"}
BARRED = (ast.AsyncFunctionDef, ast.Global, ast.Nonlocal, ast.With, ast.Yield, ast.YieldFrom, ast.Await,
          ast.GeneratorExp, ast.JoinedStr, ast.AnnAssign, ast.NamedExpr, ast.Match, ast.Assert, ast.Delete, ast.Set,
          ast.SetComp)
STATEMENTS = (ast.FunctionDef, ast.ClassDef, ast.Return, ast.Assign, ast.AugAssign, ast.For, ast.While, ast.If,
              ast.Raise, ast.ImportFrom, ast.Expr, ast.Pass, ast.Break, ast.Continue, ast.Try)
LIBRARY = {"itertools": {"product", "combinations", "permutations"}, "math": {"gcd", "lcm", "isqrt", "comb", "perm", "factorial"},
           "heapq": {"heappush", "heappop"}}
AT_ONCE = {"range", "zip", "enumerate", "reversed", "map"}
TAKING = {"combinations", "list", "tuple", "dict", "sorted", "sum", "any", "all", "enumerate", "zip"}
NO_STARTS = ("_wall", "_pe_", "_dcw_", "_enum_", "_cm_", "_twin_re_", "_lay_", "_law_", "_stub_", "_sre", "_cold",
             "_tuplegetter", "_outside", "_record", "_written_out", "_member_names", "__")


class File:
    """One file of the package and what is found in it."""

    def __init__(self, name, text):
        self.name = name
        self.text = text
        self.tree = ast.parse(text)
        self.found = []
        self.parents = {child: node for node in ast.walk(self.tree) for child in ast.iter_child_nodes(node)}
        self.imports = {alias.name: node.module for node in self.tree.body if isinstance(node, ast.ImportFrom)
                        for alias in node.names}
        self.functions = {node.name: node for node in self.tree.body if isinstance(node, ast.FunctionDef)}
        self.classes = {node.name: node for node in self.tree.body if isinstance(node, ast.ClassDef)}

    def say(self, rule, node, what):
        self.found.append(f"{self.name}:{getattr(node, 'lineno', node)}: {rule}: {what}")


def check(texts):
    """What is wrong in the files told, a dict from their names, as houses.py, to their texts."""
    files = {name: File(name, text) for name, text in texts.items()}
    calls = {}
    methods = set()
    for file in files.values():
        calls[file.name] = dict(file.functions)
        for made in file.classes.values():
            methods.update(node.name for node in made.body if isinstance(node, ast.FunctionDef))
    for file in files.values():
        check_text(file)
        check_module(file)
        check_imports(file, files)
        check_names(file)
        check_nodes(file, methods)
        check_calls(file, files)
    return [line for file in files.values() for line in file.found] + check_rings(files)


def check_text(file):
    lines = file.text.split("\n")
    if len(lines) - 1 > 399:
        file.say("L10", len(lines), "too many lines")
    for at, line in enumerate(lines, 1):
        if len(line) > 120 or "\t" in line or line != line.rstrip():
            file.say("L10", at, "too long, a tab, or blanks at the end")
        if any(not " " <= sign <= "~" for sign in line):
            file.say("L14", at, "a character out of ASCII")
        if "_wall" in line or "_WallAttr" in line:
            file.say("L12", at, "a barred word")
    if not file.text.endswith("\n") or file.text.endswith("\n\n"):
        file.say("L14", len(lines), "one line feed at the end")
    for token in tokenize.generate_tokens(io.StringIO(file.text).readline):
        if token.type in (tokenize.NAME, tokenize.STRING) and not token.string.startswith('"""'):
            if set(re.findall(r"\w+", token.string)) & NO_WORDS:
                file.say("L17", token.start[0], token.string)
        if token.type == tokenize.STRING and ("%" in token.string or "\\" in token.string.replace("\\n", "")):
            file.say("L27", token.start[0], token.string)


def is_plain(value, functions, depth=0):
    """Whether a value at module level is a plain one, or a table of plain ones and of functions defined above."""
    if isinstance(value, ast.Dict) and depth == 0:
        return all(isinstance(key, ast.Constant) for key in value.keys) and all(
            is_plain(part, functions, 1) for part in value.values)
    if isinstance(value, ast.Tuple):
        return all(is_plain(part, functions, 1) for part in value.elts)
    return isinstance(value, ast.Constant) or depth > 0 and isinstance(value, ast.Name) and value.id in functions


def check_module(file):
    seen = set()
    for at, node in enumerate(file.tree.body):
        names = []
        if isinstance(node, (ast.FunctionDef, ast.ClassDef)):
            names = [node.name]
        elif isinstance(node, ast.ImportFrom):
            names = [alias.name for alias in node.names]
            if seen - set(file.imports):
                file.say("L2", node, "an import that does not stand at the top")
        elif isinstance(node, ast.Assign) and isinstance(node.targets[0], ast.Name) and len(node.targets) == 1:
            names = [node.targets[0].id]
            if not is_plain(node.value, seen & set(file.functions)):
                file.say("L3", node, "no plain value")
        elif not (at == 0 and isinstance(node, ast.Expr) and isinstance(node.value, ast.Constant)):
            file.say("L3", node, "barred at module level")
        for name in names:
            if name in seen:
                file.say("L15", node, f"{name} is bound twice")
            seen.add(name)
    if ast.get_docstring(file.tree) is None:
        file.say("own rule", 1, "no docstring")


def check_imports(file, files):
    used = {node.id for node in ast.walk(file.tree) if isinstance(node, ast.Name)}
    for node in ast.walk(file.tree):
        if isinstance(node, ast.ImportFrom):
            if node.module in LIBRARY and not node.level:
                check_library(file, node, used)
                continue
            target = files.get(f"{(node.module or '').removeprefix('hearths.')}.py")
            if node.level or target is None or not node.module.startswith("hearths."):
                file.say("L2", node, "an import from outside of the package")
                continue
            for alias in node.names:
                there = set(target.functions) | set(target.classes) | {
                    part.targets[0].id for part in target.tree.body if isinstance(part, ast.Assign)}
                if alias.name not in there or alias.asname:
                    file.say("L16", node, f"{alias.name} is not defined there, or renamed")
                if alias.name not in used:
                    file.say("own rule", node, f"{alias.name} is not used")


def check_library(file, node, used):
    """Names of the library are only called, by position; products are gone through at once."""
    for alias in node.names:
        if alias.name not in LIBRARY[node.module] or alias.asname or alias.name not in used:
            file.say("L2", node, f"{alias.name} is barred, renamed or not used")
        for name in [part for part in ast.walk(file.tree) if isinstance(part, ast.Name) and part.id == alias.name]:
            call = file.parents[name]
            if not isinstance(call, ast.Call) or call.func is not name or call.keywords:
                file.say("L2", name, f"{alias.name} is not called at once, by position")
            elif node.module == "itertools" and not isinstance(file.parents[call], (ast.For, ast.comprehension)):
                file.say("L2", name, f"{alias.name} is not gone through at once")


def check_rings(files):
    """What files import from one another in a ring."""
    ahead = {name: {f"{module.removeprefix('hearths.')}.py" for module in file.imports.values()
                    if module not in LIBRARY} for name, file in files.items()}
    while True:
        free = [name for name in ahead if not ahead[name] & set(ahead)]
        if not free:
            return [f"{name}: L16: a ring of imports" for name in ahead]
        for name in free:
            del ahead[name]


def bound_names(function):
    """The parameters and local variables of a function."""
    names = {argument.arg for node in ast.walk(function) if isinstance(node, ast.arguments) for argument in node.args}
    names |= {node.id for node in ast.walk(function) if isinstance(node, ast.Name) and isinstance(node.ctx, ast.Store)}
    return names | {node.name for node in ast.walk(function) if isinstance(node, ast.FunctionDef) and node != function}


def check_names(file):
    top = set(file.functions) | set(file.classes) | set(file.imports) | {
        node.targets[0].id for node in file.tree.body if isinstance(node, ast.Assign)}
    for node in ast.walk(file.tree):
        if isinstance(node, ast.FunctionDef):
            inside = bound_names(node)
            for name in inside & top:
                file.say("L15", node, f"{name} stands at module level, too")
            for name in inside:
                check_name(file, node, name)
            if node.end_lineno - node.lineno + 1 > 40:
                file.say("L10", node, "more than 40 lines")
            if node.name not in DOUBLE:
                check_name(file, node, node.name)
        elif isinstance(node, ast.Name) and isinstance(node.ctx, ast.Load):
            around = node
            while around in file.parents and not isinstance(around, ast.FunctionDef):
                around = file.parents[around]
            inside = bound_names(around) if isinstance(around, ast.FunctionDef) else set()
            if node.id not in inside and node.id not in top and node.id not in BUILTINS:
                file.say("L8", node, f"{node.id} is no name that may be read")
            if node.id == "_":
                file.say("L12", node, "_ is read")
        elif isinstance(node, ast.Attribute):
            check_attribute(file, node)


def check_name(file, node, name):
    if name in NEVER | NO_NAMES or name in dir(builtins) or name.startswith(NO_STARTS):
        file.say("L12, L15, L17", node, f"{name} is barred")
    if not re.fullmatch(r"_?[A-Za-z][A-Za-z0-9_]*|_", name):
        file.say("L12", node, f"{name} is no plain name")


def check_attribute(file, node):
    if node.attr in NEVER or node.attr in ("format", "format_map", "mro") or node.attr.startswith("__"):
        file.say("L17", node, node.attr)
    if isinstance(node.ctx, ast.Store) and (node.attr in METHODS - {"count", "index"} or node.attr == "args"):
        file.say("L26", node, node.attr)


def check_nodes(file, methods):
    attributes = {node.attr for node in ast.walk(file.tree)
                  if isinstance(node, ast.Attribute) and isinstance(node.ctx, ast.Store)}
    for name in attributes & methods:
        file.say("L18", 1, f"{name} is a method and an attribute")
    for node in ast.walk(file.tree):
        if isinstance(node, BARRED) or isinstance(node, ast.stmt) and not isinstance(node, STATEMENTS):
            file.say("L6", node, node.__class__.__name__)
        if isinstance(node, (ast.FunctionDef, ast.ClassDef)) and node.decorator_list:
            file.say("L4", node, "a decorator")
        if isinstance(node, ast.FunctionDef) and (node.returns or any(a.annotation for a in node.args.args)):
            file.say("L21", node, "an annotation")
        if isinstance(node, ast.FunctionDef) and (node.args.vararg or node.args.kwarg or node.args.defaults):
            file.say("own rule", node, "a star or a default")
        if isinstance(node, (ast.ListComp, ast.DictComp)) and len(node.generators) > 6:
            file.say("L7", node, "too many for")
        if isinstance(node, ast.Constant) and isinstance(node.value, (float, complex, bytes)):
            file.say("L7", node, "a number that is no integer, or bytes")
        if isinstance(node, (ast.BinOp, ast.AugAssign)) and isinstance(node.op, (ast.Div, ast.Pow, ast.MatMult)):
            file.say("L7, L27", node, "/, ** or @")
        if isinstance(node, ast.Compare):
            check_compare(file, node)
        if isinstance(node, ast.Raise):
            check_raise(file, node)
        if isinstance(node, ast.Try):
            check_try(file, node)
        if isinstance(node, ast.For):
            check_loop(file, node)
        if isinstance(node, ast.Call):
            check_call(file, node, methods)


def check_compare(file, node):
    for sign, right in zip(node.ops, node.comparators):
        if isinstance(sign, (ast.Is, ast.IsNot)):
            if not isinstance(right, ast.Constant) or right.value not in (None, True, False):
                file.say("L20", node, "is")


def check_try(file, node):
    """A finally assigns names that were there ahead of the try, and no handler stands beside it."""
    for last in node.finalbody:
        values = last.value.elts if isinstance(last, ast.Assign) and isinstance(last.value, ast.Tuple) else []
        if not values or not all(isinstance(value, ast.Name) for value in values):
            file.say("L6", last, "more than an assignment of names")
    if node.handlers or node.orelse or not node.finalbody:
        file.say("own rule", node, "a handler")


def check_raise(file, node):
    call = node.exc
    if not isinstance(call, ast.Call) or not isinstance(call.func, ast.Name) or node.cause is not None:
        file.say("L19", node, "an error that is not made on the spot")
    elif file.imports.get(call.func.id) != "hearths.errors":
        file.say("L19", node, "no own error")


def plain_name(node):
    """The name or attribute, as written, that a loop goes over, through enumerate, items and so on."""
    if isinstance(node, ast.Call) and isinstance(node.func, ast.Name) and node.func.id in AT_ONCE and node.args:
        return [name for argument in node.args for name in plain_name(argument)]
    if isinstance(node, ast.Call) and isinstance(node.func, ast.Attribute) and not node.args:
        return plain_name(node.func.value)
    return [ast.unparse(node)] if isinstance(node, (ast.Name, ast.Attribute, ast.Subscript)) else []


def check_loop(file, loop):
    names = plain_name(loop.iter)
    for node in [part for statement in loop.body for part in ast.walk(statement)]:
        changed = []
        if isinstance(node, ast.Call) and isinstance(node.func, ast.Attribute):
            if node.func.attr in ("append", "extend", "insert", "pop", "remove", "clear", "update", "setdefault", "add"):
                changed = [node.func.value]
        elif isinstance(node, (ast.Assign, ast.AugAssign)):
            targets = node.targets if isinstance(node, ast.Assign) else [node.target]
            changed = [part.value for target in targets for part in ast.walk(target)
                       if isinstance(part, (ast.Subscript, ast.Attribute)) and isinstance(part.ctx, ast.Store)]
        for part in changed:
            if ast.unparse(part) in names:
                file.say("L23", node, "changes what the loop goes over")


def check_call(file, node, methods):
    parent = file.parents[node]
    if node.keywords and not (isinstance(node.func, ast.Name) and node.func.id in ("sorted", "min", "max")
                              and [keyword.arg for keyword in node.keywords] == ["key"]):
        file.say("L22", node, "a keyword")
    if isinstance(node.func, ast.Attribute):
        if node.func.attr not in METHODS | SET_METHODS | methods:
            file.say("L25", node, node.func.attr)
        name = node.func.attr if node.func.attr in ("items", "keys", "values") else None
    else:
        name = node.func.id if isinstance(node.func, ast.Name) else None
        if name is None:
            file.say("L4", node, "a call of what is no name")
    if name in AT_ONCE or name in ("items", "keys", "values"):
        iterated = isinstance(parent, (ast.For, ast.comprehension)) and parent.iter is node
        taken = isinstance(parent, ast.Call) and isinstance(parent.func, ast.Name) and (
            parent.func.id in TAKING or parent.func.id in ("min", "max") and len(parent.args) == 1)
        if not iterated and not taken:
            file.say("L23", node, f"{name} is not gone through at once")
    if name == "set" and not (isinstance(parent, ast.Call) and isinstance(parent.func, ast.Name)
                              and parent.func.id in ("sorted", "len")):
        file.say("L24", node, "a set")
    if name == "reversed" and not (isinstance(node.args[0], ast.Call) and node.args[0].func.id == "list"):
        file.say("L23", node, "reversed of what is no list")
    if name == "isinstance" and not isinstance(node.args[1], (ast.Name, ast.Tuple)):
        file.say("L22", node, "isinstance")


def check_calls(file, files):
    """Each call of an own function passes what it takes."""
    for node in ast.walk(file.tree):
        if not isinstance(node, ast.Call) or not isinstance(node.func, ast.Name):
            continue
        name = node.func.id
        if file.imports.get(name) in LIBRARY:
            continue
        home = files[f"{file.imports[name].removeprefix('hearths.')}.py"] if name in file.imports else file
        if name in home.functions:
            takes = len(home.functions[name].args.args)
        elif name in home.classes:
            inits = [part for part in home.classes[name].body if isinstance(part, ast.FunctionDef)
                     and part.name == "__init__"]
            takes = len(inits[0].args.args) - 1 if inits else 0
        else:
            continue
        if len(node.args) != takes or node.keywords:
            file.say("L22", node, f"{name} takes {takes}")
