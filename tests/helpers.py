"""What the tests share: small houses and lines, wrong values, and slow ways to find the same results."""

import itertools
import random

YES = ("yes",)
NO = ("no",)
AB = ("house", ("a", "b"), YES)
OR = ("house", ("a", "b"), ("or", ("is", "a"), ("is", "b")))
NONE = ("house", ("a", "b"), ("and", ("is", "a"), ("not", ("is", "a"))))
ONE = ("house", ("a",), YES)
ODD = ("house", ("a", "b", "c"), ("split", "a", ("not", ("is", "b")), ("or", ("is", "b"), ("is", "c"))))
SEVEN = ("house", ("g", "f", "e", "d", "c", "b", "a"), YES)
HOUSES = (
    ONE, AB, OR, NONE, ODD,
    ("house", ("a",), ("is", "a")),
    ("house", ("b", "a"), ("not", ("and", ("is", "a"), ("is", "b")))),
    ("house", ("x", "y", "z"), YES),
    ("house", ("x", "y", "z"), NO),
    ("house", ("x", "y", "z"), ("or", ("and", ("is", "x"), ("is", "y")), ("and", ("is", "y"), ("is", "z")))),
    ("house", ("d", "c", "b", "a"), ("split", "c", ("is", "a"), ("not", ("is", "d")))),
)
SMALL = tuple(house for house in HOUSES if len(house[1]) <= 3)


def num(number):
    return ("number", number)


def when(s, on, off):
    return ("choice", s, on, off)


def plus(one, other):
    return ("plus", one, other)


def deep(levels):
    thing = ()
    for _ in range(levels):
        thing = (thing,)
    return thing


class Plain:
    """A value of a kind that no function knows."""


STRANGE = (
    None, True, False, 0, 1, -1, 10 ** 8, "", "a", "yes", "house", "number", b"", b"a", [], [0], ["yes"], ["a"],
    {}, {"yes": 1}, set(), {"a"}, frozenset(), range(2), Plain(), Plain, len, ValueError("a"),
    (None,), (True,), (0,), (1,), ("",), ([],), ({},), ((),), (b"yes",), (["yes"],), ("yes", "no"), ("nothing",),
    ("is",), ("is", "q"), ("is", ["a"]), ("is", None), ("number",), ("number", "1"), ("number", []), ("name", []),
    ("house", [], YES), ("choice", "a"), ({}, []), ([], []), deep(60), [deep(59)],
)


def spoiled(thing):
    """All values that are like the tuple but for one part of another kind."""
    if isinstance(thing, tuple):
        yield list(thing)
        for at, part in enumerate(thing):
            for wrong in spoiled(part):
                yield thing[:at] + (wrong,) + thing[at + 1:]
    elif isinstance(thing, str):
        yield thing.encode()
        yield [thing]
        yield None
    elif isinstance(thing, int):
        yield str(thing)
        yield (thing,)
        yield None
        if thing in (0, 1):
            yield bool(thing)


def assert_judged(case, function, args, *bads):
    """Each (position, bad value, error) raises just its error, and the first of two wrong ones counts.

    The order of bads is that in which they must be judged.
    """
    function(*args)
    for at, (place, bad, error) in enumerate(bads):
        wrong = list(args)
        wrong[place] = bad
        with case.assertRaises(error) as caught:
            function(*wrong)
        case.assertIs(type(caught.exception), error)
        for later_place, later_bad, _ in bads[at + 1:]:
            if later_place == place:
                continue
            worse = list(wrong)
            worse[later_place] = later_bad
            with case.assertRaises(error) as caught:
                function(*worse)
            case.assertIs(type(caught.exception), error)


def slow_all(house):
    """All settings, let or not, in order."""
    found = []
    for ons in itertools.product((False, True), repeat=len(house[1])):
        found.append(tuple(s for s, on in zip(house[1], ons) if on))
    return found


def slow_holds(condition, setting):
    tag = condition[0]
    if tag in ("yes", "no"):
        return tag == "yes"
    if tag == "is":
        return condition[1] in setting
    if tag == "not":
        return not slow_holds(condition[1], setting)
    if tag == "and":
        return slow_holds(condition[1], setting) and slow_holds(condition[2], setting)
    if tag == "or":
        return slow_holds(condition[1], setting) or slow_holds(condition[2], setting)
    return slow_holds(condition[2] if condition[1] in setting else condition[3], setting)


def slow_let(house):
    return [setting for setting in slow_all(house) if slow_holds(house[2], setting)]


def slow_held(house, condition):
    return [setting for setting in slow_let(house) if slow_holds(condition, setting)]


def assert_told(case, house, condition, held):
    """The condition is plain, and holds for just these settings."""
    case.assertEqual([s for s in slow_all(house) if slow_holds(condition, s)], list(held))
    case.assertTrue(is_plain(condition, house[1]), condition)


def is_plain(condition, switches):
    if condition in (YES, NO):
        return True
    tag, s, one, other = condition
    if tag != "split" or s not in switches or one == other:
        return False
    behind = switches[switches.index(s) + 1:]
    return is_plain(one, behind) and is_plain(other, behind)


def slow_build(line, setting):
    if not isinstance(line, tuple):
        return line
    if line[0] == "choice":
        return slow_build(line[2] if line[1] in setting else line[3], setting)
    return tuple(slow_build(part, setting) for part in line)


def slow_builds(house, line):
    return {setting: slow_build(line, setting) for setting in slow_let(house)}


TAGS = ("number", "truth", "name", "let", "set", "plus", "less", "if", "show", "then", "choice")


def slow_label(line):
    return tuple(part for part in line if not isinstance(part, tuple))


def slow_parts(line):
    return tuple(part for part in line if isinstance(part, tuple))


def slow_nodes(line):
    found = [line]
    for part in slow_parts(line):
        found += slow_nodes(part)
    return found


def slow_paths(line, path=()):
    found = {path: line}
    for index, part in enumerate(line):
        if isinstance(part, tuple):
            found.update(slow_paths(part, path + (index,)))
    return found


def slow_ahead(house, one, other):
    """Whether the first line is ahead, told step by step."""
    ones, others = slow_nodes(one), slow_nodes(other)
    choices = [len([node for node in nodes if node[0] == "choice"]) for nodes in (ones, others)]
    if choices[0] != choices[1]:
        return choices[0] < choices[1]
    if len(ones) != len(others):
        return len(ones) < len(others)
    for mine, yours in zip(ones, others):
        mine, yours = slow_label(mine), slow_label(yours)
        if mine == yours:
            continue
        if mine[0] != yours[0]:
            return TAGS.index(mine[0]) < TAGS.index(yours[0])
        if mine[0] == "truth":
            return mine[1] == "yes"
        if mine[0] == "choice":
            return house[1].index(mine[1]) < house[1].index(yours[1])
        return mine[1] < yours[1]
    return False


def slow_choices(line):
    return len([node for node in slow_nodes(line) if node[0] == "choice"])


def slow_lines(switches, trees, most):
    """All lines with at most so many choices, each of which parts settings, with these builds by setting."""
    found = []
    labels = {slow_label(tree) for tree in trees.values()}
    if len(labels) == 1:
        beginnings = [(next(iter(labels)), most)]
        for at in range(len(slow_parts(next(iter(trees.values()))))):
            inner = {setting: slow_parts(tree)[at] for setting, tree in trees.items()}
            longer = []
            for begun, left in beginnings:
                for part in slow_lines(switches, inner, left):
                    longer.append((begun + (part,), left - slow_choices(part)))
            beginnings = longer
        found += [begun for begun, _ in beginnings]
    for s in switches if most else ():
        ons = {setting: tree for setting, tree in trees.items() if s in setting}
        offs = {setting: tree for setting, tree in trees.items() if s not in setting}
        if ons and offs:
            for on in slow_lines(switches, ons, most - 1):
                for off in slow_lines(switches, offs, most - 1 - slow_choices(on)):
                    found.append(("choice", s, on, off))
    return found


def slow_least(house, line):
    """The first in order of all lines alike the line, found among all with no more choices."""
    trees = slow_builds(house, line)
    if not trees:
        return ("number", 0)
    least = line
    for found in slow_lines(house[1], trees, slow_choices(line)):
        if slow_ahead(house, found, least):
            least = found
    return least


def decided(house, trees):
    """A line that has these builds by setting."""
    def tree_for(done, switches):
        if not switches:
            return trees.get(tuple(done), ("number", 0))
        return ("choice", switches[0], tree_for(done + [switches[0]], switches[1:]), tree_for(done, switches[1:]))
    return tree_for([], house[1])


def random_condition(dice, switches, size):
    if size <= 1:
        return dice.choice((YES, NO) + tuple(("is", s) for s in switches) * 2)
    tag = dice.choice(("not", "and", "or", "split"))
    half = dice.randint(1, size - 1)
    one = random_condition(dice, switches, half)
    if tag == "not":
        return ("not", one)
    other = random_condition(dice, switches, size - half)
    if tag == "split":
        return ("split", dice.choice(switches), one, other)
    return (tag, one, other)


def random_house(dice, count):
    switches = tuple(dice.sample("abcdefgh", count))
    return ("house", switches, random_condition(dice, switches, dice.randint(1, 6)))


def random_line(dice, switches, size, chance=0.4):
    """A line of at most so many nodes over these switches (an expression without any)."""
    if size <= 1:
        return dice.choice((num(0), num(1), num(2), ("truth", "yes"), ("truth", "no"), ("name", "x"), ("name", "y")))
    if size == 2:
        return dice.choice((("show",), ("set", "x"))) + (random_line(dice, switches, 1),)
    if switches and dice.random() < chance:
        head, many = ("choice", dice.choice(switches)), 2
    else:
        head, many = dice.choice(((("plus",), 2), (("less",), 2), (("then",), 2), (("let", "x"), 2), (("show",), 1),
                                  (("set", "y"), 1), (("if",), 3)))
    each = max(1, (size - 1) // many)
    sizes = [dice.randint(1, each) for _ in range(many)]
    return head + tuple(random_line(dice, switches, part, chance) for part in sizes)


def changed(dice, tree, chance=0.3):
    """The expression with some of its nodes replaced."""
    if dice.random() < chance:
        return random_line(dice, (), dice.randint(1, 3))
    return slow_label(tree) + tuple(changed(dice, part, chance) for part in slow_parts(tree))


def dice_of(seed):
    return random.Random(seed)


def slow_fewest(switches, trees):
    """All lines with these builds by setting that have as few choices as can be."""
    most = 0
    while True:
        found = slow_lines(switches, trees, most)
        if found:
            return sorted(set(found), key=repr)
        most += 1


def slow_first(house, trees):
    """The line ahead of all others with these builds by setting."""
    if not trees:
        return num(0)
    first, *others = slow_fewest(house[1], trees)
    for line in others:
        if slow_ahead(house, line, first):
            first = line
    return first


def slow_condition_text(condition):
    tag = condition[0]
    if tag in ("yes", "no"):
        return tag
    if tag == "is":
        return condition[1]
    parts = [slow_condition_text(part) for part in condition[1:] if isinstance(part, tuple)]
    if tag == "not":
        return "not " + parts[0]
    if tag == "split":
        return f"when {condition[1]} take {parts[0]} otherwise {parts[1]}"
    return "{} {} {} {}".format(*(("both", parts[0], "and", parts[1]) if tag == "and" else ("either", parts[0], "or", parts[1])))


def slow_condition(switches, words):
    """The condition that all the words tell, read from the left by its parts; None if they tell none."""
    def read(at):
        word = words[at]
        if word in ("yes", "no"):
            return (word,), at + 1
        if word in switches:
            return ("is", word), at + 1
        if word == "not":
            part, at = read(at + 1)
            return ("not", part), at
        if word == "when":
            if words[at + 1] not in switches or words[at + 2] != "take":
                raise IndexError
            one, behind = read(at + 3)
            if words[behind] != "otherwise":
                raise IndexError
            other, end = read(behind + 1)
            return ("split", words[at + 1], one, other), end
        tag, joint = {"both": ("and", "and"), "either": ("or", "or")}.get(word, (None, None))
        if tag is None:
            raise IndexError
        one, behind = read(at + 1)
        if words[behind] != joint:
            raise IndexError
        other, end = read(behind + 1)
        return (tag, one, other), end
    try:
        condition, end = read(0)
    except IndexError:
        return None
    return condition if end == len(words) else None


def slow_told(house, text):
    """The told words, each with the conditions around it and whether each must hold; None if the text has bad forks."""
    told, around = [], []
    for row in text.split("\n"):
        words = row.split()
        if words[:1] == ["only"]:
            condition = slow_condition(house[1], words[1:])
            if condition is None:
                return None
            around.append((condition, True))
        elif words == ["other"] and around and around[-1][1]:
            around[-1] = (around[-1][0], False)
        elif words == ["over"] and around:
            around.pop()
        elif words[:1] in (["other"], ["over"]):
            return None
        else:
            told += [(word, tuple(around)) for word in words]
    return None if around else told


def slow_where(told, setting):
    """The pairs of an index and a word that stand for the setting."""
    return [(at, word) for at, (word, around) in enumerate(told)
            if all(slow_holds(condition, setting) is is_first for condition, is_first in around)]


def slow_line_rows(line):
    """The words of a line in rows, each choice as a fork."""
    tag = line[0]
    if tag == "choice":
        return ["only " + line[1]] + slow_line_rows(line[2]) + ["other"] + slow_line_rows(line[3]) + ["over"]
    if tag in ("number", "truth", "name"):
        return [str(line[1])]
    head = {"let": f"let {line[1]}:", "set": f"set {line[1]}:", "then": "first"}.get(tag, tag)
    joints = {"let": "in", "plus": "with", "less": "than", "then": "next"}
    rows = [head]
    for at, part in enumerate(slow_parts(line)):
        if at:
            rows.append(joints[tag] if tag in joints else ("then", "else")[at - 1])
        rows += slow_line_rows(part)
    return rows


def slow_read(words):
    """The expression that the words tell, or the pair of the index where they fail and the want there."""
    def fail(at, want):
        raise LookupError(at, want)

    def want(at, word):
        if at == len(words) or words[at] != word:
            fail(at, word)
        return at + 1

    def name(at):
        if at == len(words) or words[at][-1] != ":" or not is_plain_name(words[at][:-1]):
            fail(at, "a name")
        return words[at][:-1], at + 1

    def read(at):
        word = words[at] if at < len(words) else None
        if word is None:
            fail(at, "an expression")
        if word.isdigit() and str(int(word)) == word and int(word) <= 999:
            return num(int(word)), at + 1
        if word in ("yes", "no"):
            return ("truth", word), at + 1
        if is_plain_name(word):
            return ("name", word), at + 1
        if word == "show":
            part, at = read(at + 1)
            return ("show", part), at
        if word == "set":
            x, at = name(at + 1)
            part, at = read(at)
            return ("set", x, part), at
        if word == "let":
            x, at = name(at + 1)
            one, at = read(at)
            other, at = read(want(at, "in"))
            return ("let", x, one, other), at
        if word == "if":
            one, at = read(at + 1)
            other, at = read(want(at, "then"))
            third, at = read(want(at, "else"))
            return ("if", one, other, third), at
        if word not in ("plus", "less", "first"):
            fail(at, "an expression")
        one, at = read(at + 1)
        other, at = read(want(at, {"plus": "with", "less": "than", "first": "next"}[word]))
        return ("then" if word == "first" else word, one, other), at
    try:
        tree, end = read(0)
    except LookupError as error:
        return error.args
    return tree if end == len(words) else (end, "the end")


KEPT_WORDS = (
    "and both choice either else first house if in is less let name next no not number only or other otherwise over plus "
    "rule set show split switches take than then truth when with yes").split()


def is_plain_name(word):
    return 1 <= len(word) <= 8 and all(letter in "abcdefghijklmnopqrstuvwxyz" for letter in word) and word not in KEPT_WORDS


def is_read(words):
    """Whether slow_read tells an expression."""
    return isinstance(slow_read(words)[0], str)


WORDS = ("0", "7", "x", "x:", "yes", "in", "with", "than", "then", "else", "next", "let", "set", "plus", "less", "if",
         "show", "first", "or")


def random_words(dice, many, line=None):
    """Some words, mostly out of those of a line."""
    words = " ".join(slow_line_rows(line)).split() if line else []
    if len(words) > many:
        at = dice.randint(0, len(words) - many)
        words = words[at:at + many]
    words = [dice.choice(WORDS) if dice.random() < 0.05 else word for word in words]
    while len(words) < many and dice.random() < 0.8:
        words.insert(dice.randint(0, len(words)), dice.choice(WORDS))
    return words


def random_text(dice, house, many, forks, line=None):
    """A text of forks with some words, cut into rows and cut through by forks anywhere."""
    switches = house[1]

    def rows(words, left):
        if not left or dice.random() < 0.2:
            cut = dice.randint(0, len(words))
            parts = [words[:cut], words[cut:]] if dice.random() < 0.5 else [words]
            return [dice.choice(("", " ", "  ")) + dice.choice((" ", "  ")).join(part) for part in parts]
        ends = sorted(dice.randint(0, len(words)) for _ in range(3))
        one, other, third, fourth = [words[a:b] for a, b in zip([0] + ends, ends + [len(words)])]
        inner = left - 1
        shares = sorted(dice.randint(0, inner) for _ in range(3))
        told = rows(one, shares[0]) if one or shares[0] else []
        condition = random_condition(dice, switches, dice.randint(1, 4))
        told.append(dice.choice(("", " ")) + "only " + slow_condition_text(condition) + dice.choice(("", "  ")))
        told += rows(other, shares[1] - shares[0])
        if dice.random() < 0.6:
            told += ["other"] + (rows(third, shares[2] - shares[1]) if third else [])
        told.append("over ")
        return told + (rows(fourth, inner - shares[2]) if fourth or inner - shares[2] else [])
    words = random_words(dice, many, line)
    return "\n".join(rows(words, forks))


def line_text(dice, house, line):
    """A text of a line, at times with a few of its rows taken away, doubled or exchanged."""
    told = slow_line_rows(line)
    for _ in range(dice.choice((0, 0, 0, 1, 2))):
        plain_rows = [at for at, row in enumerate(told) if row.split()[:1] not in (["only"], ["other"], ["over"])]
        if plain_rows:
            at = dice.choice(plain_rows)
            told[at] = dice.choice(("", dice.choice(WORDS), told[at] + " " + told[at]))
    return "\n".join(told)
