"""Rows of the three forms of rules, each with the mask of the settings that keep it, and hulls of settings."""

from manybuilds.enough import all_lots
from manybuilds.masks import full_mask, switch_mask

PAIRS = "pairs"
NEEDS = "needs"
FORMS = ("pairs", "needs", "sums")


def _side_masks(switches):
    """The masks of the settings in which a switch is on or off, by the switch and the word."""
    full = full_mask(switches)
    masks = {(s, "on"): switch_mask(switches, s) for s in switches}
    masks.update({(s, "off"): full & ~switch_mask(switches, s) for s in switches})
    return masks


def row_mask(switches, row):
    """The settings, let or not, that keep the row."""
    full = full_mask(switches)
    sides = _side_masks(switches)
    if row[0] == "either":
        return sides[row[1]] | sides[row[2]]
    if row[0] == "need":
        mask = full if row[2] is None else sides[(row[2], "off")]
        for s in row[1]:
            mask &= sides[(s, "on")]
        return full & ~mask
    mask = 0 if row[2] == "odd" else full
    for s in row[1]:
        mask ^= sides[(s, "on")]
    return mask


def _pairs(switches):
    """All rows of the form "pairs", each with its mask."""
    sides = _side_masks(switches)
    rows = []
    for s in switches:
        for one in ((s, "on"), (s, "off")):
            rows.append((("either", one, one), sides[one]))
    for at, s in enumerate(switches):
        for one in ((s, "on"), (s, "off")):
            others = [other for other in sides if other[0] in switches[at + 1:]]
            rows.extend([(("either", one, other), sides[one] | sides[other]) for other in others])
    return rows


def _needs(switches):
    """All rows of the form "needs", each with its mask."""
    full = full_mask(switches)
    sides = _side_masks(switches)
    all_on = {(): full}
    rows = []
    for lot in all_lots(switches):
        if lot:
            all_on[lot] = all_on[lot[:-1]] & sides[(lot[-1], "on")]
        rows.append((("need", lot, None), full & ~all_on[lot]))
        others = [s for s in switches if s not in lot]
        rows.extend([(("need", lot, s), full & ~(all_on[lot] & sides[(s, "off")])) for s in others])
    return rows


def _sums(switches):
    """All rows of the form "sums", each with its mask."""
    full = full_mask(switches)
    sides = _side_masks(switches)
    odd = {(): 0}
    rows = []
    for lot in all_lots(switches)[1:]:
        odd[lot] = odd[lot[:-1]] ^ sides[(lot[-1], "on")]
        rows.append((("sum", lot, "odd"), odd[lot]))
        rows.append((("sum", lot, "even"), full & ~odd[lot]))
    return rows


def _rows_kept(switches, form, held):
    """All rows of the form that all settings of the mask keep, each with its mask, plainer rows first."""
    if form == PAIRS:
        rows = _pairs(switches)
    elif form == NEEDS:
        rows = _needs(switches)
    else:
        rows = _sums(switches)
    return [(row, mask) for row, mask in rows if held & ~mask == 0]


def hull_mask(switches, form, held):
    """The settings, let or not, that keep all rows that all settings of the mask keep."""
    mask = full_mask(switches)
    for _, kept in _rows_kept(switches, form, held):
        mask &= kept
    return mask


def needed_rows(switches, form, held):
    """Rows that just the settings of the hull keep, none of which can be left out."""
    rows = _rows_kept(switches, form, held)
    # What all rows ahead of each one leave: from the last row to the first each is tried, so that plainer ones stay.
    ahead = [full_mask(switches)]
    for _, mask in rows:
        ahead.append(ahead[-1] & mask)
    hull = ahead[-1]
    behind = full_mask(switches)
    needed = []
    for at in reversed(range(len(rows))):
        if ahead[at] & behind != hull:
            needed.append(rows[at][0])
            behind &= rows[at][1]
    return tuple(needed[::-1])
