"""Acts: what rows of words, torn or whole, do to what is due."""

from manybuilds.errors import BadAct
from manybuilds.texts import judge_text, words_of
from manybuilds.wants import EXPRESSION, JOINTS, NAME, placed, want_of

# What an act is if its words can stand nowhere.
NOWHERE = None

# The fewest words behind which just these two wants are due in the place of an expression.
OPENING = {
    "in": ("let", "x:"), "with": ("plus",), "than": ("less",), "then": ("if",),
    "else": ("if", "0", "then"), "next": ("first",),
}

LAST_OF_IF = ("else", "an expression")
REST_OF_IF = ("then", "an expression", "else", "an expression")


def _head(wants):
    """The wants of a met tuple ahead of the first joint."""
    if wants[:2] == (NAME, EXPRESSION):
        return wants[:2]
    return wants[:1] if wants[:1] == (EXPRESSION,) else ()


def is_met(wants):
    """Whether the tuple of wants is due behind some words."""
    at = len(_head(wants))
    while at < len(wants):
        if wants[at] not in JOINTS or wants[at + 1:at + 2] != (EXPRESSION,):
            return False
        if wants[at] == "then" and wants[at + 2:at + 3] != ("else",):
            return False
        at += 2
    return True


def _forced(needs):
    """What follows these wants in each met tuple that begins with them."""
    if not needs:
        return ()
    more = () if needs[-1] == EXPRESSION else (EXPRESSION,)
    return more + LAST_OF_IF if (needs + more)[-2:] == REST_OF_IF[:2] else more


def act_of(words):
    """The act of the words."""
    needs, due = [], []
    for word in words:
        want = want_of(word)
        if due:
            if due.pop() != want:
                return NOWHERE
        elif want is None:
            return NOWHERE
        else:
            needs.append(want)
        due.extend(placed(word)[::-1])
    more = _forced(tuple(needs))
    if not is_met(tuple(needs) + more):
        return NOWHERE
    return (tuple(needs) + more, tuple(due[::-1]) + more)


def act(text):
    """The act of all words of the text."""
    judge_text(text)
    return act_of(words_of(text))


def _are_wants(thing):
    """Whether any value is a tuple of wants that is due behind some words."""
    return isinstance(thing, tuple) and all(isinstance(want, str) for want in thing) and is_met(thing)


def is_act(thing):
    """Whether some words have the act, which may be any value."""
    if thing is None:
        return True
    if not isinstance(thing, tuple) or len(thing) != 2:
        return False
    needs, leaves = thing
    # Each word takes a want, so only no words need none.
    return _are_wants(needs) and _are_wants(leaves) and (needs != () or leaves == ())


def judge_act(thing):
    """Refuse what is no act."""
    if not is_act(thing):
        raise BadAct("no words have this act")


def behind(one, other):
    """The act of words of the first act with words of the second one behind them."""
    judge_act(one)
    judge_act(other)
    if one is None or other is None:
        return NOWHERE
    needs, leaves = one
    more, left = other
    if leaves[:len(more)] == more:
        return (needs, left + leaves[len(more):])
    needs = needs + more[len(leaves):]
    if more[:len(leaves)] == leaves and is_met(needs):
        return (needs, left)
    return NOWHERE


def words_away(wants):
    """The fewest words that are read where these wants are due."""
    plainest = {EXPRESSION: "0", NAME: "x:"}
    return [plainest.get(want, want) for want in wants]


def words_to(wants):
    """The fewest words, perhaps none, behind which the met tuple is due in the place of an expression."""
    head = _head(wants)
    joints = wants[len(head)::2]
    words = []
    for at in reversed(range(len(joints))):
        # One "if" leaves both joints, so the "else" behind a "then" needs no words of its own.
        if joints[at - 1:at] != ("then",):
            words.extend(OPENING[joints[at]])
    if head == (NAME, EXPRESSION):
        return words[:-1] if joints[:1] == ("in",) else words + ["set"]
    return words if head else words + ["0"]


def _some_words_to(wants):
    """The same as words_to, but not without any word."""
    return words_to(wants) or ["show"]


def _fewest(needs, leaves):
    """The fewest words of an act that needs something."""
    ways = [words_away(needs[:-1]) + _some_words_to(leaves)]
    if len(needs) > 1 and leaves == (EXPRESSION,):
        # The last expression is left as it is.
        ways.append(words_away(needs[:-1]))
    if needs[-4:] == REST_OF_IF and leaves[-2:] == LAST_OF_IF and is_met(leaves[:-2]):
        # So are the "else" and what follows it.
        ways.append(words_away(needs[:-3]) + _some_words_to(leaves[:-2]))
        if leaves == REST_OF_IF[1:]:
            ways.append(words_away(needs[:-3]))
    return min(ways, key=len)


def least_words(thing):
    """A text of the fewest words that have the act."""
    judge_act(thing)
    if thing is None:
        return "or"
    return " ".join(_fewest(thing[0], thing[1])) if thing[0] else ""
