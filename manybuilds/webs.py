"""The ties of a line, each with the settings in which it stands, and what they lead to."""

from manybuilds.masks import full_mask, numbers_in, switch_mask
from manybuilds.trees import FIRST, is_number, part_indexes

# The numbers of the two terms that every line has.
NUMBER = 0
TRUTH = 1

# What each part of a node is tied with, by the tag of the node: "own" is the node itself.
PART_TIES = {
    "plus": ("number", "number"),
    "less": ("number", "number"),
    "if": ("truth", "own", "own"),
    "let": (None, "own"),
    "set": ("own",),
    "show": ("own",),
    "then": (None, "own"),
    "choice": ("own", "own"),
}

# What a node itself is tied with, by its tag.
NODE_TIES = {"number": "number", "plus": "number", "truth": "truth", "less": "truth"}


class Web:
    """The terms of a line, known by numbers, and its ties, known by their places in ascending order.

    A tie is a row of its path, its index, its two terms, and the mask of the
    settings, let or not, in which it stands.
    """

    def __init__(self, switches, line):
        self.switches = switches
        self.free_masks = {}
        self.terms = {"number": NUMBER, "truth": TRUTH}
        rows = []
        self._walk(line, (), full_mask(switches), {}, rows)
        self.rows = sorted(rows, key=lambda row: (row[0], row[1]))
        self.masks = [row[4] for row in self.rows]
        self.places = {(row[0], row[1]): place for place, row in enumerate(self.rows)}
        self.links = [[] for _ in self.terms]
        for place, (_, _, one, other, _) in enumerate(self.rows):
            self.links[self.terms[one]].append((place, self.terms[other]))
            self.links[self.terms[other]].append((place, self.terms[one]))

    def _walk(self, node, path, mask, lets, rows):
        """Put the ties of the node and of all within into the rows; lets has what names are bound to here."""
        self.terms.setdefault(path, len(self.terms))
        tag = node[0]
        if tag in NODE_TIES:
            rows.append((path, 0, path, NODE_TIES[tag], mask))
        elif tag in ("name", "set"):
            rows.append((path, 0, path, self._bound(node[1], mask, lets), mask))
        for at, index in enumerate(part_indexes(node)):
            inner = path + (index,)
            part_mask = self._part_mask(node, at, mask)
            other = PART_TIES[tag][at]
            if other is not None:
                rows.append((path, index, inner, path if other == "own" else other, part_mask))
            inner_lets = lets
            if tag == "let" and at == 1:
                inner_lets = {**lets, node[1]: path + (FIRST[tag],)}
            self._walk(node[index], inner, part_mask, inner_lets, rows)

    def _bound(self, name, mask, lets):
        """The term of a mention of the name."""
        if name in lets:
            return lets[name]
        self.terms.setdefault(("name", name), len(self.terms))
        self.free_masks[name] = self.free_masks.get(name, 0) | mask
        return ("name", name)

    def _part_mask(self, node, at, mask):
        """The settings of the mask for which the part is picked."""
        if node[0] != "choice":
            return mask
        on = switch_mask(self.switches, node[1])
        return mask & on if at == 0 else mask & ~on

    def is_term(self, thing):
        """Whether any value is a term."""
        if isinstance(thing, tuple):
            if not all(is_number(index) for index in thing) and not all(isinstance(word, str) for word in thing):
                return False
        elif not isinstance(thing, str):
            return False
        return thing in self.terms

    def tie_place(self, thing):
        """The place of the tie that any value is, or None."""
        if not isinstance(thing, tuple) or len(thing) != 2:
            return None
        path, index = thing
        if not is_number(index) or not isinstance(path, tuple) or not all(is_number(step) for step in path):
            return None
        return self.places.get(thing)

    def ties_at(self, places):
        """The ties at these places, each as a pair of its path and its index."""
        return tuple([self.rows[place][:2] for place in places])

    def without(self, places):
        """The masks of all ties, those at these places taken away."""
        masks = list(self.masks)
        for place in places:
            masks[place] = 0
        return masks

    def reached(self, start, within, masks):
        """For each term the settings of the mask in which ties lead to it from the start.

        masks tells for each tie where it is taken to stand.
        """
        known = [0] * len(self.links)
        known[start] = within
        todo = [start]
        while todo:
            term = todo.pop()
            for place, other in self.links[term]:
                more = known[term] & masks[place] & ~known[other]
                if more:
                    known[other] |= more
                    todo.append(other)
        return known

    def clashing(self, within, masks):
        """The settings of the mask in which ties lead from "number" to "truth"."""
        return self.reached(NUMBER, within, masks)[TRUTH]

    def nearest_clash(self, within, masks):
        """The number of a setting of the mask in which as few ties as in any lead from "number" to "truth", or None."""
        known = [0] * len(self.links)
        known[NUMBER] = within
        front = {NUMBER: within}
        while front and TRUTH not in front:
            following = {}
            for term, mask in front.items():
                for place, other in self.links[term]:
                    more = mask & masks[place] & ~known[other]
                    if more:
                        following[other] = following.get(other, 0) | more
            for term, mask in following.items():
                known[term] |= mask
            front = following
        return numbers_in(front[TRUTH])[0] if front else None

    def chain_among(self, standing):
        """The places of the ties of a shortest chain, if the ties stand for which standing is true, or None."""
        ahead = {NUMBER: None}
        todo = [NUMBER]
        while todo and TRUTH not in ahead:
            following = []
            for term in todo:
                for place, other in self.links[term]:
                    if standing[place] and other not in ahead:
                        ahead[other] = (place, term)
                        following.append(other)
            todo = following
        if TRUTH not in ahead:
            return None
        places = []
        step = ahead[TRUTH]
        while step is not None:
            places.append(step[0])
            step = ahead[step[1]]
        return places[::-1]

    def is_chain(self, thing, standing):
        """Whether any value is a chain of ties for which standing is true."""
        if not isinstance(thing, tuple):
            return False
        seen = {NUMBER: True}
        term = NUMBER
        for tie in thing:
            place = self.tie_place(tie)
            if place is None or not standing[place]:
                return False
            ends = [self.terms[end] for end in self.rows[place][2:4]]
            if term not in ends:
                return False
            term = ends[1] if ends[0] == term else ends[0]
            if term in seen:
                return False
            seen[term] = True
        return term == TRUTH
