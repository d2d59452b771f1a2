"""Sets of settings as masks.

A setting has a number: the first switch of the house adds most to it, so that
numbers ascend in the order of settings. In a mask the bit k stands for the
setting with the number k.
"""


def switch_bit(switches, s):
    """What the switch adds to the number of a setting that has it on."""
    return 1 << (len(switches) - 1 - switches.index(s))


def number_of(switches, setting):
    """The number of a setting."""
    return sum([switch_bit(switches, s) for s in setting])


def setting_of(switches, number):
    """The setting with this number."""
    return tuple([s for s in switches if number & switch_bit(switches, s)])


def mask_of(numbers):
    """The mask of the settings with these numbers."""
    mask = 0
    for number in numbers:
        mask |= 1 << number
    return mask


def numbers_in(mask):
    """The numbers of the settings of a mask, ascending."""
    return [number for number in range(mask.bit_length()) if mask >> number & 1]


def full_mask(switches):
    """The mask of all settings, let or not."""
    return (1 << (1 << len(switches))) - 1


def off_mask(switches, bit):
    """The mask of the settings whose numbers lack the bit of a switch."""
    # Runs of settings without and with the bit take turns, each as long as the bit tells.
    return full_mask(switches) // ((1 << bit) + 1)


def switch_mask(switches, s):
    """The mask of the settings that have the switch on."""
    bit = switch_bit(switches, s)
    return off_mask(switches, bit) << bit


def spreads(switches, mask):
    """By the number of each lot of switches: the settings that are like one of the mask but for the lot."""
    known = [mask]
    for at in range(len(switches)):
        bit = 1 << at
        off = off_mask(switches, bit)
        known = known + [inner | inner >> bit & off | (inner & off) << bit for inner in known]
    return known


def corners(switches):
    """By the number of each lot of switches: the settings that have all of the lot off."""
    known = [full_mask(switches)]
    for at in range(len(switches)):
        off = off_mask(switches, 1 << at)
        known = known + [inner & off for inner in known]
    return known


def cube_mask(switches, cube):
    """The mask of the settings that lie in the cube, let or not."""
    mask = full_mask(switches)
    for s in cube[0]:
        mask &= switch_mask(switches, s)
    for s in cube[1]:
        mask &= ~switch_mask(switches, s)
    return mask


def condition_mask(switches, condition):
    """The mask of the settings for which the condition holds, let or not."""
    tag = condition[0]
    if tag == "yes":
        return full_mask(switches)
    if tag == "no":
        return 0
    if tag == "is":
        return switch_mask(switches, condition[1])
    if tag == "not":
        return full_mask(switches) & ~condition_mask(switches, condition[1])
    one = condition_mask(switches, condition[-2])
    other = condition_mask(switches, condition[-1])
    if tag == "and":
        return one & other
    if tag == "or":
        return one | other
    on = switch_mask(switches, condition[1])
    return one & on | other & ~on


def plain_condition(switches, mask):
    """The plain condition that holds for just the settings of the mask."""
    if mask == 0:
        return ("no",)
    if mask == full_mask(switches):
        return ("yes",)
    half = 1 << (len(switches) - 1)
    on = plain_condition(switches[1:], mask >> half)
    off = plain_condition(switches[1:], mask & ((1 << half) - 1))
    if on == off:
        return on
    return ("split", switches[0], on, off)


def put_mask(masks, key, mask):
    """Add the settings of the mask to those that the dict has by the key, if there are some."""
    if mask:
        masks[key] = masks.get(key, 0) | mask
