"""Interfaces: all of a part that counts for others."""

from manybuilds.conditions import judge_house, let_mask
from manybuilds.errors import BadInterface
from manybuilds.linkage import Linkage
from manybuilds.lines import decided
from manybuilds.masks import full_mask, numbers_in, plain_condition, put_mask
from manybuilds.nets import Net
from manybuilds.parts import judge_part, wrong_mask
from manybuilds.seams import GIVE, NEED, NUMBER, TRUTH, Seam, seam_of
from manybuilds.words import fresh_names

ZERO = ("number", 0)
TRUE = ("truth", "yes")


def _put_leans(linkage, seam, name):
    """Put in which needed names the rows lean that give the name, in the settings in which they are told."""
    starts = [(place, linkage.rows[place].mask & seam.gives[name]) for place in linkage.givers[name]]
    for place, mask in linkage.leaning.reached(starts).items():
        for needed, reads in linkage.rows[place].web.free_masks.items():
            put_mask(seam.leans, (name, needed), mask & reads & seam.needs.get(needed, 0))


def _ends(linkage, seam, term):
    """The terms of lines that a term of the interface stands for, each with its settings."""
    if term in (NUMBER, TRUTH):
        return [(term, linkage.let & ~seam.bad)]
    tag, name = term
    if tag == NEED:
        return [(("name", name), seam.needs[name])]
    return [((place, ()), linkage.rows[place].mask & seam.gives[name]) for place in linkage.givers[name]]


def _put_joins(linkage, seam):
    """Put in which terms are joined."""
    terms = seam.all_terms()
    for at, term in enumerate(terms):
        known = linkage.kinds.reached(_ends(linkage, seam, term))
        for other in terms[at + 1:]:
            for end, mask in _ends(linkage, seam, other):
                put_mask(seam.joins, (term, other), known.get(end, 0) & mask)


def seam_with(house, part):
    """What the part shows."""
    linkage = Linkage(house, (part,))
    seam = Seam(wrong_mask(linkage))
    for name, places in linkage.givers.items():
        put_mask(seam.gives, name, linkage.standing(places) & ~seam.bad)
    for (_, name), mask in list(linkage.needs.items()):
        put_mask(seam.needs, name, mask & ~seam.bad)
    for name in list(seam.gives):
        _put_leans(linkage, seam, name)
    _put_joins(linkage, seam)
    return seam


def interface(house, part):
    """The interface of the part."""
    judge_house(house)
    judge_part(house, part)
    return seam_with(house, part).as_interface(house[1])


def _standing(house, seam, term):
    """The settings in which there is the term."""
    if term in (NUMBER, TRUTH):
        return let_mask(house) & ~seam.bad
    return seam.gives[term[1]] if term[0] == GIVE else seam.needs[term[1]]


def _is_closed(house, seam):
    """Whether terms that are joined with one are joined, none in a setting without it, nor "number" with "truth"."""
    net = Net()
    for (one, other), mask in seam.joins.items():
        net.tie(one, other, mask)
    terms = seam.all_terms()
    for at, term in enumerate(terms):
        known = net.reached([(term, _standing(house, seam, term))])
        for other in terms[at + 1:]:
            joined = seam.joined(term, other)
            if known.get(other, 0) != joined or joined & ~_standing(house, seam, other):
                return False
    return not seam.joined(NUMBER, TRUTH)


def _grounds(seam, name):
    """The names on which the given one leans and with which it is joined, each with the settings."""
    pairs = []
    for one, other in sorted(seam.leans):
        if one == name:
            pairs.append((other, seam.leans[(one, other)] & seam.joined((GIVE, name), (NEED, other))))
    return pairs


def _is_grounded(seam, name):
    """Whether the given name is joined with "number", "truth" or a name on which it leans, wherever it is given."""
    known = seam.joined(NUMBER, (GIVE, name)) | seam.joined(TRUTH, (GIVE, name))
    for _, mask in _grounds(seam, name):
        known |= mask
    return seam.gives[name] & ~known == 0


def _is_sound(house, seam):
    """Whether some part shows what is told."""
    for masks in (seam.gives, seam.needs, seam.leans, seam.joins):
        if any(mask & seam.bad for mask in masks.values()):
            return False
    if any(seam.gives[name] & seam.needs.get(name, 0) for name in seam.gives):
        return False
    if any(mask & ~(seam.gives[one] & seam.needs[other]) for (one, other), mask in seam.leans.items()):
        return False
    return _is_closed(house, seam) and all(_is_grounded(seam, name) for name in seam.gives)


def sound_seam(house, thing):
    """What any value shows that is the interface of some part, or None."""
    seam = seam_of(house, thing)
    return seam if seam is not None and _is_sound(house, seam) else None


def is_interface(house, thing):
    """Whether any value is the interface of some part."""
    judge_house(house)
    return sound_seam(house, thing) is not None


def _read_line(switches, name, mask):
    """A line that reads the name for the settings of the mask alone."""
    if mask == full_mask(switches):
        return ("name", name)
    return decided(switches, {number: ("name", name) if mask >> number & 1 else ZERO
                              for number in range(1 << len(switches))})


def _in_turn(lines):
    """A line that works out all of the lines, nesting no deeper than need be."""
    while len(lines) > 1:
        pairs = [("then", one, other) for one, other in zip(lines[::2], lines[1::2])]
        lines = pairs + lines[len(pairs) * 2:]
    return lines[0]


def _given_line(switches, seam, name):
    """A line that is joined with one term, as the name is, and reads all names on which it leans."""
    leaves = {}
    for term, leaf in ((NUMBER, ZERO), (TRUTH, TRUE)):
        leaves.update({number: leaf for number in numbers_in(seam.joined(term, (GIVE, name)))})
    for needed, mask in _grounds(seam, name):
        leaves.update({number: ("name", needed) for number in numbers_in(mask) if number not in leaves})
    last = decided(switches, leaves)
    reads = [_read_line(switches, other, seam.leans[(one, other)]) for one, other in sorted(seam.leans) if one == name]
    return ("then", _in_turn(reads), last) if reads else last


def _leaf(term):
    """The expression that is the term."""
    if term in (NUMBER, TRUTH):
        return ZERO if term == NUMBER else TRUE
    return ("name", term[1])


def _kept_lines(seam):
    """Lines, each with the settings in which it must stand, that need names, join terms and are wrong."""
    lines = [(("plus", TRUE, ZERO), seam.bad)]
    lines.extend([(("name", name), seam.needs[name]) for name in sorted(seam.needs)])
    terms = seam.all_terms()
    for at, term in enumerate(terms):
        left = -1
        for other in terms[:at]:
            mask = seam.joined(other, term) & left
            lines.append((("if", TRUE, _leaf(other), _leaf(term)), mask))
            # What is joined with the term comes to be so by the first one with which it is.
            left &= ~mask
    return [(line, mask) for line, mask in lines if mask]


def part_of_seam(switches, seam):
    """A part that shows this."""
    rows = []
    for name in sorted(seam.gives):
        condition = plain_condition(switches, seam.gives[name])
        rows.append(("give", name, condition, _given_line(switches, seam, name)))
    lines = _kept_lines(seam)
    names = fresh_names(list(seam.gives) + list(seam.needs), len(lines))
    for name, (line, mask) in zip(names, lines):
        rows.append(("keep", name, plain_condition(switches, mask), line))
    return ("part", tuple(rows))


def judged_seam(house, thing):
    """What the interface shows; BadInterface for any value that is none."""
    seam = sound_seam(house, thing)
    if seam is None:
        raise BadInterface("this is no interface")
    return seam


def part_with(house, interface):
    """A part with this interface."""
    judge_house(house)
    return part_of_seam(house[1], judged_seam(house, interface))
