"""Runs of all builds at once, parted only where a switch is felt."""

from manybuilds.books import runs_of
from manybuilds.conditions import judge_house, judge_let, let_mask
from manybuilds.lines import judge_line
from manybuilds.masks import number_of, numbers_in, switch_mask


class Feeling:
    """The runs of the builds of a line for all let settings.

    All settings of a cube have one run up to the first switch that is felt
    and not settled, so the run of any of them tells which one it is.
    """

    def __init__(self, house, line):
        self.switches = house[1]
        self.let = let_mask(house)
        self.runs = runs_of(house, line)

    def _first_run(self, mask):
        """The run of the first setting of the mask."""
        return self.runs[numbers_in(mask)[0]]

    def next_felt(self, mask):
        """The first switch that is felt and parts the settings of the mask, or None."""
        for s in self._first_run(mask).felt:
            if mask & switch_mask(self.switches, s) and mask & ~switch_mask(self.switches, s):
                return s
        return None

    def tree(self, mask):
        """The felt tree of the settings of the mask, those of a cube."""
        s = self.next_felt(mask)
        if s is None:
            return ("ends", self._first_run(mask).result())
        on = switch_mask(self.switches, s)
        return ("feels", s, self.tree(mask & on), self.tree(mask & ~on))

    def felt_switches(self, number):
        """The switches that are felt on the way of the setting with this number."""
        mask = self.let
        found = []
        s = self.next_felt(mask)
        while s is not None:
            found.append(s)
            on = switch_mask(self.switches, s)
            mask = mask & on if on >> number & 1 else mask & ~on
            s = self.next_felt(mask)
        return found


def felt(house, line):
    """The felt tree of the line, None if the house lets no setting."""
    judge_house(house)
    judge_line(house, line)
    feeling = Feeling(house, line)
    return feeling.tree(feeling.let) if feeling.let else None


def felt_by(house, line, setting):
    """The cube of the switches that are felt on the way of the let setting."""
    judge_house(house)
    judge_line(house, line)
    judge_let(house, setting)
    found = Feeling(house, line).felt_switches(number_of(house[1], setting))
    on = tuple([s for s in house[1] if s in found and s in setting])
    return (on, tuple([s for s in house[1] if s in found and s not in setting]))
