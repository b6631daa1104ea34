"""The package keeps to LANGUAGE.md, as far as a test can see."""

import pathlib
import unittest

import language

FOLDER = pathlib.Path(__file__).resolve().parent.parent / language.PACKAGE


def package_files():
    found = {}
    for path in FOLDER.rglob("*"):
        if path.is_file() and "__pycache__" not in path.parts:
            found[path.relative_to(FOLDER.parent).as_posix()] = path.read_bytes()
    return found


def rules_broken(text, path="countkin/sample.py", more=()):
    """The names of the rules that a package with this file breaks."""
    files = {"countkin/__init__.py": b"", path: text.encode("utf-8")}
    files.update(more)
    return {fault.split()[0] for fault in language.faults(files)}


GOOD = '''"""A file that keeps to the rules."""

from countkin.other import Other, helped

WORDS = ["a", "b"]
LEAST = -1


def double(number, times=2):
    """A docstring."""
    return number * times


TABLE = {"a": double, "b": (1, 2)}


class Told(Other):
    """A class."""

    def __init__(self, names):
        Other.__init__(self, names)
        self.names = list(names)
        self.count = 0

    def __len__(self):
        return len(self.names)

    def add(self, name):
        self.names.append(name)
        self.count += 1


def walk(names):
    found = {}
    for place, name in enumerate(names, start=1):
        if name in {1, 2, 3} or name is None:
            continue
        found[name] = TABLE["a"](place)
    for name in list(found):
        found.pop(name)
    told = Told(names)
    if isinstance(told, (Told, int)) and set(names) != set(WORDS):
        told.add(f"{names} {found!r}")
    total = sum([place for place in range(3) if place > 1])
    return sorted(set(names) | set(WORDS)) + sorted(names, key=len, reverse=True) + [total ** 2]


def number(text):
    try:
        found = int(text)
    except ValueError as e:
        raise NotImplementedError("no number") from e
    else:
        return helped(found)
'''

OTHER = b'''class Other:
    def __init__(self, names):
        self.first = names[0]


def helped(number):
    return lambda other: other + number
'''

BAD = {
    "L2": [
        "import re\n",
        "from re import sub\n",
        "from . import errors\n",
        "from countkin.__main__ import x\n",
        "def f():\n    from countkin.sample import f\n",
        "def f():\n    return 1\n\n\nfrom countkin.other import g\n",
    ],
    "L3": ["A = 1 + 1\n", "A = B\n", "print\n", "for k in range(3):\n    A = k\n", "A = {1: 2, **{}}\n", "A = 1.5\n"],
    "L4": [
        "def f(*args):\n    return args\n",
        "def f(**args):\n    return args\n",
        "def f(a, *, b):\n    return a\n",
        "def f(a, /):\n    return a\n",
        "def f(a=[]):\n    return a\n",
        "def g(f):\n    return f\n\n\n@g\ndef f(a):\n    return a\n",
    ],
    "L5": [
        "class A:\n    pass\n\n\nclass B:\n    pass\n\n\nclass C(A, B):\n    pass\n",
        "class A(dict):\n    pass\n",
        "class A:\n    x = 1\n",
        "class A:\n    def __hash__(self):\n        return 1\n",
        "class A(metaclass=B):\n    pass\n",
    ],
    "L6": [
        "def f(a):\n    with a:\n        pass\n",
        "def f(a):\n    del a[0]\n",
        "def f(a):\n    assert a\n",
        "def f(a):\n    global b\n    b = a\n",
        "def f(a):\n    for k in a:\n        pass\n    else:\n        pass\n",
        "def f(a):\n    try:\n        a()\n    finally:\n        a()\n",
        "def f(a):\n    b = c = a\n",
        "def f(a):\n    b, c = a\n",
        "def f(a):\n    a == 1\n",
        "def f(a):\n    try:\n        a()\n    except:\n        pass\n",
        "def f(a):\n    match a:\n        case 1:\n            pass\n",
    ],
    "L7": [
        "def f(a):\n    return a / 2\n",
        "def f():\n    return 1.5\n",
        "def f():\n    return b'a'\n",
        "def f(a):\n    return {k for k in a}\n",
        "def f(a):\n    return {k: k for k in a}\n",
        "def f(a):\n    return list(k for k in a)\n",
        "def f(a):\n    return [k for j in a for k in j]\n",
        "def f(a):\n    return [k for k in a if k if k > 1]\n",
        "def f(a):\n    return [*a]\n",
        "def f(a):\n    return f(**a)\n",
        "def f(a):\n    return f'{a + 1}'\n",
        "def f(a):\n    return f'{a:3}'\n",
        "def f(a):\n    return (b := a)\n",
        "def f(a):\n    yield a\n",
        "A = {1, 2}\n",
    ],
    "L8": [
        "def f(a):\n    return hash(a)\n",
        "def f(a):\n    return unknown(a)\n",
        "def f(a):\n    return map(f, a)\n",
        "def f(a, len):\n    return a\n",
        "def f(a):\n    return a.__class__\n",
        "def f(a):\n    return 'x'.format(a)\n",
    ],
    "L9": ["def f(a):\n    print(a)\n", "def f(a):\n    return open(a)\n"],
    "L10": [
        "def f(a):\n" + "    a += 1\n" * 40,
        "# no more\n" * 401,
        "# " + "x" * 119 + "\n",
        "def f(a):\n\treturn a\n",
    ],
    "L11": ["def f(a):\n    try:\n        return int(a)\n    except ValueError as e:\n        return str(e)\n"],
    "L12": ["def f(a):\n    _ = a\n", "def _f(a):\n    return a\n", "class A:\n    def _f(self):\n        return 1\n"],
    "L13": ["def f(a):\n    return len({1, 2, 3})\n", "def f(a):\n    return (lambda b: 1, lambda b: 2)\n"],
    "L14": ["# \u00e4\n"],
    "L15": [
        "A = 1\nA = 2\n",
        "def f():\n    class A:\n        pass\n",
        "A = [[1], [2]]\n",
        "A = {1: [2]}\n",
        "A = [1]\n\n\ndef f():\n    A.append(2)\n",
        "A = [1]\n\n\ndef f():\n    A[0] = 2\n",
        "A = [1]\n\n\ndef f():\n    return A\n",
        "A = {1: 2}\n\n\ndef f(g):\n    g(A)\n",
        "def f(next):\n    return next\n",
        "class A:\n    pass\n\n\ndef f(A):\n    return A\n",
    ],
    "L16": [
        "from countkin.sample import f\n\n\ndef f():\n    return 1\n",
        "from countkin.other import missing\n",
        "from countkin import other\n",
    ],
    "L17": [
        "class A:\n    def register(self):\n        return 1\n",
        "def f(a):\n    return a.f_back\n",
        "def f(a):\n    return dir(a)\n",
        "# the type of it\n",
        "# mydataclasses\n",
        "def f():\n    return 'an enum'\n",
    ],
    "L18": [
        "class A:\n    pass\n\n\ndef f():\n    return [A]\n",
        "class A:\n    pass\n\n\ndef f():\n    A.x = 1\n",
        "class A:\n    def f(self):\n        return 1\n\n    def f(self):\n        return 2\n",
        "class A:\n    def f(self):\n        return 1\n\n    def g(self):\n        self.f = 2\n",
        "class A(StopIteration):\n    pass\n",
    ],
    "L19": [
        "class A(ValueError):\n    pass\n\n\ndef f():\n    raise A\n",
        "def f():\n    try:\n        f()\n    except KeyError:\n        raise\n",
        "def f():\n    try:\n        f()\n    except Exception:\n        pass\n",
        "def f():\n    try:\n        f()\n    except TypeError:\n        pass\n",
        "def f():\n    try:\n        f()\n    except ValueError:\n        pass\n",
        "def f(a):\n    try:\n        return a[1:]\n    except IndexError:\n        pass\n",
        "def f(a):\n    try:\n        return int(a * 2)\n    except (ValueError, KeyError):\n        pass\n",
        "def f(a):\n    raise ValueError('a') from a\n",
    ],
    "L20": ["def f(a):\n    return a is 1\n", "def f(a, b):\n    return a is not b\n"],
    "L21": ["def f(a: int):\n    return a\n", "def f(a) -> int:\n    return a\n", "A: int = 1\n"],
    "L22": [
        "def f(a):\n    return isinstance(a, set)\n",
        "def f(a):\n    b = len\n    return b(a)\n",
        "def f(a):\n    return sorted(a, key=repr)\n",
        "def f(a, b):\n    return sorted(a, reverse=b)\n",
        "def f(a):\n    return int(a, base=2)\n",
        "def f(a):\n    return a.split(sep=' ')\n",
    ],
    "L23": [
        "def f(a):\n    return range(a)\n",
        "def f(a):\n    b = zip(a, a)\n    return list(b)\n",
        "def f(a):\n    return a.items()\n",
        "def f(a):\n    return zip(a, range(3))\n",
        "def f(a):\n    for k in reversed(range(a)):\n        f(k)\n",
        "def f(a):\n    for k in a:\n        a.append(k)\n",
        "def f(a):\n    for k, b in enumerate(a):\n        a[k] = b\n",
        "def f(a):\n    for k, b in a.items():\n        a.pop(k)\n",
    ],
    "L24": [
        "def f(a):\n    b = set(a)\n    return len(b)\n",
        "def f(a):\n    for k in set(a):\n        f(k)\n",
        "def f(a):\n    return {1, a}\n",
        "def f(a, b):\n    return set(a) == b\n",
        "def f(a):\n    return sorted(set(a), reverse=True)\n",
        "def f(a, b):\n    return len(set(a) - b)\n",
    ],
    "L25": [
        "def f(a):\n    a.sort()\n",
        "def f(a):\n    return a.title()\n",
        "def f(a):\n    return a.append\n",
        "def f(a):\n    return a.real\n",
    ],
    "L26": [
        "class A:\n    def sort(self):\n        return 1\n",
        "class A:\n    def __init__(self):\n        self.items = 1\n",
        "class A:\n    def __init__(self):\n        self.args = 1\n",
    ],
    "L27": [
        "def f(n):\n    return 2 ** n\n",
        "def f(n):\n    return n ** 65\n",
        "def f():\n    return 'a%'\n",
        "def f(n):\n    return chr(n)\n",
        "def f():\n    return '\\x41'\n",
        "def f(n):\n    return f'\\x41{n}'\n",
        "A = " + "1" * 901 + "\n",
    ],
    "L28": [
        "class A:\n    def __init__(self):\n        return None\n",
        "class A:\n    def __len__(self):\n        return self.f()\n\n    def f(self):\n        return 1\n",
        "class A:\n    def __eq__(self, other):\n        self.x = 1\n        return True\n",
        "class A:\n    def __str__(self):\n        return self.f()\n\n    def f(self):\n        return 'a'\n",
    ],
}


class PackageTest(unittest.TestCase):
    def test_the_package_keeps_to_every_rule(self):
        self.assertIn("countkin/kin.py", package_files())
        self.assertEqual(language.faults(package_files()), [])

    def test_no_test_lies_in_the_package(self):
        for path in package_files():
            self.assertNotIn("test", path)


class RulesTest(unittest.TestCase):
    """The rules see what breaks them, so that the test above tells something."""

    def test_what_is_granted_is_let_by(self):
        self.assertEqual(rules_broken(GOOD, more={"countkin/other.py": OTHER}), set())

    def test_what_is_not_granted_is_seen(self):
        for rule, texts in BAD.items():
            for text in texts:
                with self.subTest(rule=rule, text=text):
                    self.assertIn(rule, rules_broken(text))

    def test_files(self):
        self.assertIn("L1", rules_broken("A = 1\n", path="countkin/a-b.py"))
        self.assertIn("L1", rules_broken("", more={"countkin/notes.txt": b"notes"}))
        self.assertIn("L1", rules_broken("", more={"countkin/notes.py": b"# \xff"}))
        for path in ("countkin/Upper.py", "countkin/tests.py", "countkin/filter.py", "countkin/test_a.py",
                     "countkin/enum.py", "countkin/__main__.py", "countkin/deep/a.py", "other/a.py"):
            with self.subTest(path=path):
                self.assertIn("L14", rules_broken("A = 1\n", path=path))

    def test_files_that_draw_from_one_another(self):
        text = "from countkin.other import a\n\n\ndef b():\n    return a()\n"
        other = b"from countkin.sample import b\n\n\ndef a():\n    return b()\n"
        self.assertIn("L16", rules_broken(text, more={"countkin/other.py": other}))
        init = {"countkin/__init__.py": b"from countkin.sample import b\n"}
        self.assertIn("L16", rules_broken("def b():\n    return 1\n", more=init))
        self.assertIn("L16", rules_broken("", more={"countkin/__init__.py": b"sample = 1\n"}))

    def test_every_rule_has_a_bad_sample(self):
        self.assertEqual(set(BAD) | {"L1"}, {f"L{k}" for k in range(1, 29)})


if __name__ == "__main__":
    unittest.main()
