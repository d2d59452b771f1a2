"""Parts side by side: what the reads of their rows lead to, in which let settings."""

from manybuilds.conditions import let_mask
from manybuilds.masks import condition_mask, put_mask
from manybuilds.nets import Net
from manybuilds.webs import Web


class LinkedRow:
    """A row of a part, with the let settings in which it stands and the web of its line."""

    def __init__(self, part, row, mask, web):
        self.part = part
        self.line = row[3]
        self.mask = mask
        self.web = web


class Linkage:
    """All rows of parts, known by their places, and what is lent from one to another.

    own has, by the index of a part and a name, the places of the rows of this
    name, and givers, by a name, those of all give rows. needs and lacks tell,
    by the index of a part and a name, where the part needs the name, and where
    its reads of it lead to no row. In leaning each row leads to those to which
    its reads lead. In kinds the ties of all lines tie terms: "number",
    "truth", ("name", x), and pairs of the place of a row and a term of its line.
    """

    def __init__(self, house, parts):
        self.switches = house[1]
        self.let = let_mask(house)
        self.rows = []
        self.own = {}
        self.givers = {}
        for at, part in enumerate(parts):
            for row in part[1]:
                self._take_in(at, row)
        self.needs = {}
        self.lacks = {}
        self.leaning = Net()
        self.kinds = Net()
        for place, row in enumerate(self.rows):
            self._tie_line(place, row)
            for name in row.web.free_masks:
                self._lead_reads(place, row, name)

    def _take_in(self, at, row):
        """Put a row of the part with this index behind the others."""
        place = len(self.rows)
        mask = condition_mask(self.switches, row[2]) & self.let
        self.rows.append(LinkedRow(at, row, mask, Web(self.switches, row[3])))
        self.own.setdefault((at, row[1]), []).append(place)
        if row[0] == "give":
            self.givers.setdefault(row[1], []).append(place)

    def _tie_line(self, place, row):
        """Take in the ties of the row's line."""
        for _, _, one, other, mask in row.web.rows:
            ends = [end if isinstance(end, str) else (place, end) for end in (one, other)]
            self.kinds.tie(ends[0], ends[1], mask & row.mask)

    def _lead_reads(self, place, row, name):
        """Lead the row's free reads of the name to rows, and where there are none to the name itself."""
        left = row.mask & row.web.free_masks[name]
        left &= ~self._led(place, name, self.own.get((row.part, name), ()), left)
        put_mask(self.needs, (row.part, name), left)
        left &= ~self._led(place, name, self.givers.get(name, ()), left)
        put_mask(self.lacks, (row.part, name), left)
        self.kinds.tie((place, ("name", name)), ("name", name), left)

    def _led(self, place, name, targets, mask):
        """Lead reads of the name that stand in the settings of the mask to the rows that stand; where these do."""
        standing = 0
        for target in targets:
            stands = self.rows[target].mask
            self.leaning.lead(place, target, mask & stands)
            self.kinds.tie((place, ("name", name)), (target, ()), mask & stands)
            standing |= stands
        return standing

    def standing(self, places):
        """The settings in which some of the rows at these places stand."""
        mask = 0
        for place in places:
            mask |= self.rows[place].mask
        return mask

    def standing_twice(self, places):
        """The settings in which more than one of the rows at these places stand."""
        return overlap([self.rows[place].mask for place in places])


def overlap(masks):
    """The settings that are in more than one of the masks."""
    seen, twice = 0, 0
    for mask in masks:
        twice |= seen & mask
        seen |= mask
    return twice
