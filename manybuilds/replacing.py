"""Where one part may stand in the place of another one, and parts that tell where it may not."""

from manybuilds.conditions import is_let, judge_house, let_mask
from manybuilds.interfaces import TRUE, ZERO, seam_with
from manybuilds.linkage import Linkage
from manybuilds.masks import number_of, numbers_in, plain_condition, setting_of
from manybuilds.parts import GIVE, KEEP, is_part_of, judge_part, right_mask
from manybuilds.seams import NEED, NUMBER, TRUTH
from manybuilds.words import fresh_names

YES = ("yes",)


def _failings(one, other):
    """Each way in which the one may not be replaced by the other: a tag, a key of what they show, and the settings."""
    failings = [("bad", None, other.bad)]
    for tag, masks, others in (
            ("lacks", one.gives, other.gives), ("both", other.gives, one.gives), ("needs", other.needs, one.needs),
            ("ring", other.leans, one.leans), ("clash", other.joins, one.joins)):
        failings.extend([(tag, key, mask & ~others.get(key, 0)) for key, mask in masks.items()])
    # What is wrong by itself is right with no further parts.
    return [(tag, key, mask & ~one.bad) for tag, key, mask in failings if mask & ~one.bad]


def _failing_mask(failings):
    """The settings of all of these ways."""
    failing = 0
    for _, _, mask in failings:
        failing |= mask
    return failing


def _judged_seams(house, one, other):
    """What the two parts show, of values that are not yet judged."""
    judge_house(house)
    judge_part(house, one)
    judge_part(house, other)
    return seam_with(house, one), seam_with(house, other)


def may_replace(house, one, other):
    """The condition of the let settings in which what is right with the one part is so with the other one."""
    mine, yours = _judged_seams(house, one, other)
    return plain_condition(house[1], let_mask(house) & ~_failing_mask(_failings(mine, yours)))


class Company:
    """A further part that is right with one that shows this, in the setting with the number.

    kinds has pairs of a term and the kind that it must have; what is joined
    with none of these terms has the kind that it has anyway, or any.
    """

    def __init__(self, seam, number, kinds):
        self.seam = seam
        self.number = number
        self.kinds = kinds
        needed = [name for name, mask in seam.needs.items() if mask >> number & 1]
        self.lines = {name: self._constant((NEED, name)) for name in needed}
        self.reads = [_read_as(term[1], kind) for term, kind in kinds if term[0] == GIVE]

    def _is_joined(self, one, other):
        """Whether the terms are joined, or one."""
        return one == other or self.seam.joined(one, other) >> self.number & 1 == 1

    def _constant(self, term):
        """An expression of the kind that the term must have."""
        for known, kind in self.kinds:
            if self._is_joined(known, term):
                return ZERO if kind == NUMBER else TRUE
        return TRUE if self._is_joined(TRUTH, term) else ZERO

    def whole(self):
        """The part: it gives what is needed, and has the further lines and reads that were put in."""
        rows = [(GIVE, name, YES, line) for name, line in self.lines.items()]
        names = fresh_names(list(self.lines) + list(self.seam.gives), len(self.reads))
        return ("part", tuple(rows + [(KEEP, name, YES, line) for name, line in zip(names, self.reads)]))


def _read_as(name, kind):
    """A line that reads the name as a number or as a truth."""
    return ("plus", ("name", name), ZERO) if kind == NUMBER else ("if", ("name", name), ZERO, ZERO)


def _kinds_apart(seam, number, one, other):
    """Unlike kinds for two terms that are not joined in the setting with the number."""
    is_truth = seam.joined(TRUTH, one) | seam.joined(NUMBER, other)
    if one == TRUTH or other == NUMBER or is_truth >> number & 1:
        return [(one, TRUTH), (other, NUMBER)]
    return [(one, NUMBER), (other, TRUTH)]


def _teller(seam, number, tag, key):
    """A part that is right with one that shows this, but not with one that fails so in the setting with the number.

    No way that is ahead of this one may be there in the setting.
    """
    company = Company(seam, number, _kinds_apart(seam, number, key[0], key[1]) if tag == "clash" else [])
    if tag == "lacks":
        company.reads.append(("name", key))
    elif tag == "both":
        company.lines.setdefault(key, ZERO)
    elif tag == "ring":
        company.lines[key[1]] = ("then", ("name", key[0]), company.lines[key[1]])
    return company.whole()


def telling(house, one, other):
    """A let setting, and a part that is right with the one part in it and not with the other one; or None."""
    mine, yours = _judged_seams(house, one, other)
    failings = _failings(mine, yours)
    numbers = numbers_in(_failing_mask(failings))
    if not numbers:
        return None
    tag, key, _ = [failing for failing in failings if failing[2] >> numbers[0] & 1][0]
    return (setting_of(house[1], numbers[0]), _teller(mine, numbers[0], tag, key))


def _is_right(house, parts, number):
    """Whether the parts are right in the setting with the number."""
    return right_mask(Linkage(house, parts)) >> number & 1 == 1


def is_telling(house, one, other, thing):
    """Whether any value is a let setting, and a part that is right with the one part in it and not with the other."""
    judge_house(house)
    judge_part(house, one)
    judge_part(house, other)
    if not isinstance(thing, tuple) or len(thing) != 2:
        return False
    setting, part = thing
    if not is_let(house, setting) or not is_part_of(house, part):
        return False
    number = number_of(house[1], setting)
    return _is_right(house, (one, part), number) and not _is_right(house, (other, part), number)
