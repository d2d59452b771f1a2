"""Which few builds tell the tallies of all, and tables that others would miss."""

from manybuilds.conditions import is_let, judge_house, judge_let, let_numbers
from manybuilds.errors import BadChosen, BadCosts, BadNumbers, NotTold
from manybuilds.marking import judge_lots, marks_of
from manybuilds.masks import number_of, setting_of
from manybuilds.spans import Span, weighed, whole
from manybuilds.trees import is_number
from manybuilds.weighing import counts_by_setting, is_table, is_within


def _judge_chosen(house, chosen):
    """Refuse what is no tuple of different let settings."""
    if not isinstance(chosen, tuple) or not all(is_let(house, setting) for setting in chosen):
        raise BadChosen("this is no tuple of let settings")
    if len(set(chosen)) != len(chosen):
        raise BadChosen("the settings are not different")


def _judge(house, lots, chosen):
    """Refuse what is no house, no lots or no chosen settings of it."""
    judge_house(house)
    judge_lots(house, lots)
    _judge_chosen(house, chosen)


class Choice:
    """Which let settings are told by chosen ones: for each setting it is known which marks count."""

    def __init__(self, house, lots, chosen):
        self.numbers = let_numbers(house)
        self.counts = dict(zip(self.numbers, counts_by_setting(house, lots)))
        self.span = Span(len(marks_of(house[1], lots)), len(chosen) + len(self.numbers))
        self.chosen = [number_of(house[1], setting) for setting in chosen]
        for number in self.chosen:
            self.take(number)

    def take(self, number):
        """Choose the setting with this number, too; whether it was not told."""
        return self.span.tried(self.counts[number])

    def fractions(self, number):
        """The fractions of the chosen settings that tell the one with this number, or None."""
        return self.span.fractions(self.counts[number])

    def first_untold(self):
        """The number of the first let setting that is not told, or None."""
        for number in self.numbers:
            if self.fractions(number) is None:
                return number
        return None


def told_of(house, lots, chosen, setting):
    """The fractions of the chosen settings that tell the setting, or None."""
    _judge(house, lots, chosen)
    judge_let(house, setting)
    pairs = Choice(house, lots, chosen).fractions(number_of(house[1], setting))
    return None if pairs is None else tuple(pairs)


def tells(house, lots, chosen):
    """Whether the chosen settings tell each let setting."""
    _judge(house, lots, chosen)
    return Choice(house, lots, chosen).first_untold() is None


def is_ghost(house, lots, chosen, thing):
    """Whether any value is a table within the lots that is 0 at the chosen settings and not at all others."""
    _judge(house, lots, chosen)
    if not is_table(house, thing) or not any(thing):
        return False
    known = dict(zip(let_numbers(house), thing))
    if any(known[number_of(house[1], setting)] for setting in chosen):
        return False
    return is_within(house, lots, thing)


def ghost(house, lots, chosen):
    """The ghost that is not 0 at the first let setting that is not told, but at all that must be chosen besides."""
    _judge(house, lots, chosen)
    choice = Choice(house, lots, chosen)
    taken = [number for number in choice.numbers if choice.take(number)]
    if not taken:
        return None
    place = len(chosen) + choice.numbers.index(taken[0])
    return tuple(whole([choice.fractions(number)[place] for number in choice.numbers]))


def fewest_chosen(house, lots, costs):
    """As few let settings as can be that tell all, with the least costs, in the order in which they are taken."""
    judge_house(house)
    judge_lots(house, lots)
    if not is_table(house, costs) or any(cost < 0 for cost in costs):
        raise BadCosts("these are no costs, one for each let setting")
    choice = Choice(house, lots, ())
    known = dict(zip(choice.numbers, costs))
    cheap = sorted(choice.numbers, key=lambda number: known[number])
    return tuple([setting_of(house[1], number) for number in cheap if choice.take(number)])


def _are_numbers(chosen, thing):
    """Whether any value is a tuple of numbers, one for each of the chosen settings."""
    return isinstance(thing, tuple) and len(thing) == len(chosen) and all(is_number(number) for number in thing)


def foretold(house, lots, chosen, numbers):
    """For each let setting the fraction that a table within the lots has with these numbers at the chosen ones."""
    _judge(house, lots, chosen)
    if not _are_numbers(chosen, numbers):
        raise BadNumbers("these are no numbers, one for each chosen setting")
    choice = Choice(house, lots, chosen)
    untold = choice.first_untold()
    if untold is not None:
        raise NotTold(setting_of(house[1], untold))
    for number, told in zip(choice.chosen, numbers):
        if weighed(choice.fractions(number), numbers) != (told, 1):
            return None
    return tuple([weighed(choice.fractions(number), numbers) for number in choice.numbers])
