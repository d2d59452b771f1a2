"""What the tests of parts share: parts by chance, and slow ways to link them, setting by setting."""

from tests.helpers import random_condition, random_line, slow_build, slow_holds, slow_label, slow_let, slow_parts
from tests.test_ties import slow_reached, slow_ties, typed_line

NAMES = ("x", "y", "u", "v", "w")
KEPT_NAMES = (("k", "l"), ("m", "n"), ("p", "q"))


def slow_free_reads(tree, lets=()):
    """The names of the free reads of an expression, each as often as it stands."""
    if tree[0] == "name":
        return [] if tree[1] in lets else [tree[1]]
    if tree[0] == "let":
        return slow_free_reads(tree[2], lets) + slow_free_reads(tree[3], lets + (tree[1],))
    return [name for part in slow_parts(tree) for name in slow_free_reads(part, lets)]


def without_free_sets(line, lets=()):
    if line[0] == "set" and line[1] not in lets:
        return without_free_sets(line[2], lets)
    if line[0] == "let":
        return line[:2] + (without_free_sets(line[2], lets), without_free_sets(line[3], lets + (line[1],)))
    return slow_label(line) + tuple(without_free_sets(part, lets) for part in slow_parts(line))


def with_names(dice, line, names):
    """The line with other names in the place of those that are read."""
    if line[0] == "name":
        return ("name", dice.choice(names))
    return slow_label(line) + tuple(with_names(dice, part, names) for part in slow_parts(line))


def random_part(dice, house, most, kept=(), names=NAMES, size=7):
    """A part of at most so many rows that gives names and keeps those that are kept."""
    rows = []
    for _ in range(dice.randint(0, most)):
        name = dice.choice(names + kept)
        line = random_line(dice, house[1], size) if dice.random() < 0.2 else typed_line(
            dice, house[1], dice.randint(1, size), dice.choice(("number", "truth")), wrong=0.05)
        line = with_names(dice, without_free_sets(line), names + kept)
        tag = "keep" if name in kept else "give"
        rows.append((tag, name, random_condition(dice, house[1], dice.randint(1, 3)), line))
    return ("part", tuple(rows))


def random_parts(dice, house, many, most=3, size=7, kept=KEPT_NAMES):
    """A tuple of parts; by default no part has a name that another one keeps."""
    return tuple(random_part(dice, house, most, kept[at], size=size) for at in range(many))


class Standing:
    """The rows of parts that stand in a setting, with their builds."""

    def __init__(self, parts, setting):
        self.rows = [(i, tag, x, slow_build(line, setting)) for i, part in enumerate(parts)
                     for tag, x, condition, line in part[1] if slow_holds(condition, setting)]
        self.many = len(parts)

    def targets(self, i, x):
        """The places to which reads of x in the part i lead."""
        own = [at for at, row in enumerate(self.rows) if row[0] == i and row[2] == x]
        return own or [at for at, row in enumerate(self.rows) if row[0] != i and row[2] == x and row[1] == "give"]

    def needed(self, i):
        own = [row[2] for row in self.rows if row[0] == i]
        return sorted({x for row in self.rows if row[0] == i for x in slow_free_reads(row[3]) if x not in own})

    def behind(self, at):
        """The places of all rows on which the row leans."""
        found = []
        todo = [at]
        while todo:
            i, _, _, tree = self.rows[todo.pop()]
            for x in slow_free_reads(tree):
                for target in self.targets(i, x):
                    if target not in found:
                        found.append(target)
                        todo.append(target)
        return found

    def pairs(self):
        """The pairs of terms that are tied."""
        pairs = []
        for at, (i, _, _, tree) in enumerate(self.rows):
            for one, other in slow_ties(tree).values():
                if other[:1] == ("name",) and isinstance(other, tuple) and other[1:] and isinstance(other[1], str):
                    ends = [(target, ()) for target in self.targets(i, other[1])] or [other]
                else:
                    ends = [other if isinstance(other, str) else (at, other)]
                pairs += [((at, one), end) for end in ends]
        return pairs

    def errors(self):
        found = []
        names = sorted({row[2] for row in self.rows})
        for i in range(self.many):
            for x in names:
                if len([row for row in self.rows if row[0] == i and row[2] == x]) > 1:
                    found.append(("twice", i, x))
        for x in names:
            if len({row[0] for row in self.rows if row[1:3] == ("give", x)}) > 1:
                found.append(("both", x))
        for i in range(self.many):
            found += [("lacks", i, x) for x in self.needed(i) if not self.targets(i, x)]
        for i in range(self.many):
            for x in names:
                if any(row[0] == i and row[2] == x and at in self.behind(at) for at, row in enumerate(self.rows)):
                    found.append(("ring", i, x))
        if "truth" in slow_reached(self.pairs(), "number"):
            found.append(("clash",))
        return found


ORDER = ("twice", "both", "lacks", "ring", "clash")


def slow_errors(house, parts):
    """The settings of each error, in the order of errors."""
    found = {}
    for setting in slow_let(house):
        for error in Standing(parts, setting).errors():
            found.setdefault(error, []).append(setting)
    return sorted(found.items(), key=lambda pair: (ORDER.index(pair[0][0]),) + pair[0][1:])


def slow_right(house, parts):
    return [setting for setting in slow_let(house) if not Standing(parts, setting).errors()]


def slow_seam(part, setting):
    """What the part shows in a setting: None if it is wrong by itself, otherwise gives, needs, leans and joins."""
    known = Standing((part,), setting)
    if any(error[0] != "lacks" for error in known.errors()):
        return None
    givers = {row[2]: at for at, row in enumerate(known.rows) if row[1] == "give"}
    needs = known.needed(0)
    leans = []
    for x, place in sorted(givers.items()):
        reads = {y for at in [place] + known.behind(place) for y in slow_free_reads(known.rows[at][3])}
        leans += [(x, y) for y in needs if y in reads]
    terms = [("number", "number"), ("truth", "truth")] + [(("give", x), (givers[x], ())) for x in sorted(givers)]
    terms += [(("need", y), ("name", y)) for y in needs]
    pairs = known.pairs()
    joins = []
    for at, (term, end) in enumerate(terms):
        reached = slow_reached(pairs, end)
        joins += [(term, other) for other, other_end in terms[at + 1:] if other_end in reached]
    return (tuple(sorted(givers)), tuple(needs), tuple(leans), tuple(joins))


def seam_in(interface, setting):
    """The same of an interface."""
    if slow_holds(interface[1], setting):
        return None
    lots = [tuple(row[:-1] for row in rows if slow_holds(row[-1], setting)) for rows in interface[2:]]
    return (tuple(x for x, in lots[0]), tuple(y for y, in lots[1]), lots[2], lots[3])


def slow_linked(parts, setting, i, tree, lets=()):
    """The expression of the part i with what its free reads lead to put in."""
    if tree[0] == "name" and tree[1] not in lets:
        known = Standing(parts, setting)
        target = known.rows[known.targets(i, tree[1])[0]]
        return slow_linked(parts, setting, target[0], target[3])
    if tree[0] == "let":
        return tree[:2] + (slow_linked(parts, setting, i, tree[2], lets), slow_linked(parts, setting, i, tree[3], lets + (tree[1],)))
    return slow_label(tree) + tuple(slow_linked(parts, setting, i, part, lets) for part in slow_parts(tree))
