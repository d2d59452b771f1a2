"""Lines of rows with what their reads lead to put in."""

from manybuilds.conditions import judge_house, judge_setting
from manybuilds.errors import NotGiven, NotRight, TooMany
from manybuilds.lines import built, decided
from manybuilds.linkage import Linkage
from manybuilds.masks import number_of, numbers_in, setting_of
from manybuilds.parts import judge_parts, right_mask
from manybuilds.trees import count_nodes, label_of, parts_of

MOST = 300


def _put_reads(tree, lets, names):
    """Put the names of all free reads into the list; lets are the names of the lets around."""
    if tree[0] == "name" and tree[1] not in lets:
        names.append(tree[1])
    if tree[0] == "let":
        _put_reads(tree[2], lets, names)
        _put_reads(tree[3], lets + (tree[1],), names)
        return
    for part in parts_of(tree):
        _put_reads(part, lets, names)


def _filled(tree, lets, known):
    """The expression with what the dict has for a name in the place of each free read of it."""
    if tree[0] == "name" and tree[1] not in lets:
        return known[tree[1]]
    if tree[0] == "let":
        return tree[:2] + (_filled(tree[2], lets, known), _filled(tree[3], lets + (tree[1],), known))
    return label_of(tree) + tuple([_filled(part, lets, known) for part in parts_of(tree)])


class Linker:
    """The rows of parts in the setting with a number, in which they are right."""

    def __init__(self, house, linkage, number):
        self.house = house
        self.linkage = linkage
        self.number = number
        self.reads = {}

    def _standing(self, places):
        """The place of the row that stands, or None."""
        for place in places:
            if self.linkage.rows[place].mask >> self.number & 1:
                return place
        return None

    def giver(self, name):
        """The place of the row that gives the name, or None."""
        return self._standing(self.linkage.givers.get(name, ()))

    def _target(self, place, name):
        """The place of the row to which the row's reads of the name lead."""
        own = self._standing(self.linkage.own.get((self.linkage.rows[place].part, name), ()))
        return self.giver(name) if own is None else own

    def _build(self, place):
        """The build of the row's line."""
        return built(self.house, self.linkage.rows[place].line, setting_of(self.house[1], self.number))

    def _look_up(self, place):
        """Find out to which row each free read of the row leads; how many other nodes its build has."""
        tree = self._build(place)
        names = []
        _put_reads(tree, (), names)
        self.reads[place] = [(name, self._target(place, name)) for name in names]
        return count_nodes(tree) - len(names)

    def linked(self, place):
        """The linked build of the row; TooMany."""
        sizes = {}
        order = []
        todo = [(place, False)]
        # A way from row to row may be long, so it is not followed by calls.
        while todo:
            row, is_ready = todo.pop()
            if is_ready:
                sizes[row] += sum([sizes[target] for _, target in self.reads[row]])
                order.append(row)
            elif row not in sizes:
                sizes[row] = self._look_up(row)
                todo.append((row, True))
                todo.extend([(target, False) for _, target in self.reads[row]])
        if sizes[place] > MOST:
            raise TooMany(MOST)
        trees = {}
        for row in order:
            trees[row] = _filled(self._build(row), (), {name: trees[target] for name, target in self.reads[row]})
        return trees[place]


def linked_build(house, parts, setting, x):
    """The build of the line of the row that gives the name, with linked builds in the place of free reads."""
    judge_house(house)
    judge_parts(house, parts)
    judge_setting(house, setting)
    linkage = Linkage(house, parts)
    number = number_of(house[1], setting)
    if not right_mask(linkage) >> number & 1:
        raise NotRight("the parts are not right in the setting")
    linker = Linker(house, linkage, number)
    place = linker.giver(x) if isinstance(x, str) else None
    if place is None:
        raise NotGiven("the name is not given in the setting")
    return linker.linked(place)


def linked(house, parts, x):
    """A line whose build is the linked build in each right setting in which the name is given."""
    judge_house(house)
    judge_parts(house, parts)
    linkage = Linkage(house, parts)
    places = linkage.givers.get(x, []) if isinstance(x, str) else []
    numbers = numbers_in(right_mask(linkage) & linkage.standing(places))
    if not numbers:
        raise NotGiven("the name is given in no right setting")
    trees = {}
    for number in numbers:
        linker = Linker(house, linkage, number)
        trees[number] = linker.linked(linker.giver(x))
    return decided(house[1], trees)
