"""Nodes: their labels and parts, the paths that lead to them, and their order."""

from manybuilds.words import is_name

ORDER = ("number", "truth", "name", "let", "set", "plus", "less", "if", "show", "then", "choice")

# The index of the first part, by the tag of a node: what stands ahead of it is the label.
FIRST = {
    "number": 2, "truth": 2, "name": 2, "let": 2, "set": 2, "plus": 1,
    "less": 1, "if": 1, "show": 1, "then": 1, "choice": 2,
}

# How many items a node has, by its tag.
LENGTH = {
    "number": 2, "truth": 2, "name": 2, "let": 4, "set": 3, "plus": 3,
    "less": 3, "if": 4, "show": 2, "then": 3, "choice": 4,
}

TRUTHS = ("yes", "no")


def is_number(thing):
    """Whether any value is a number: True and False are none."""
    return isinstance(thing, int) and not isinstance(thing, bool)


def _is_detail(tag, thing, switches):
    """Whether any value may stand behind the tag in a label."""
    if tag == "number":
        return is_number(thing) and 0 <= thing <= 999
    if not isinstance(thing, str):
        return False
    if tag == "truth":
        return thing in TRUTHS
    if tag == "choice":
        return thing in switches
    return is_name(thing)


def is_tree(thing, switches):
    """Whether any value is an expression with choices of these switches."""
    if not isinstance(thing, tuple) or not thing:
        return False
    tag = thing[0]
    if not isinstance(tag, str) or tag not in LENGTH or len(thing) != LENGTH[tag]:
        return False
    first = FIRST[tag]
    if first == 2 and not _is_detail(tag, thing[1], switches):
        return False
    return all(is_tree(part, switches) for part in thing[first:])


def label_of(node):
    """The node without its parts."""
    return node[:FIRST[node[0]]]


def parts_of(node):
    """The parts of the node, from left to right."""
    return node[FIRST[node[0]]:]


def part_indexes(node):
    """The indexes at which the parts of the node stand."""
    return list(range(FIRST[node[0]], len(node)))


def is_part_index(node, thing):
    """Whether any value is an index at which a part of the node stands."""
    return is_number(thing) and FIRST[node[0]] <= thing < len(node)


def node_at(line, path):
    """The node to which the tuple leads, or None."""
    node = line
    for index in path:
        if not is_part_index(node, index):
            return None
        node = node[index]
    return node


def with_node(line, path, node):
    """The line with this node in the place of the one to which the path leads."""
    if not path:
        return node
    index = path[0]
    return line[:index] + (with_node(line[index], path[1:], node),) + line[index + 1:]


def count_nodes(line):
    """How many nodes the line has."""
    return 1 + sum([count_nodes(part) for part in parts_of(line)])


def label_key(switches, label):
    """The key by which labels are put in order."""
    rank = ORDER.index(label[0])
    if len(label) == 1:
        return (rank,)
    if label[0] == "truth":
        return (rank, TRUTHS.index(label[1]))
    if label[0] == "choice":
        return (rank, switches.index(label[1]))
    return (rank, label[1])


def _reading(line, labels):
    """Put the labels of all nodes into the list, in reading order."""
    labels.append(label_of(line))
    for part in parts_of(line):
        _reading(part, labels)


def order_key(switches, line):
    """The key by which lines are put in order: the one ahead has the lesser key."""
    labels = []
    _reading(line, labels)
    choices = len([label for label in labels if label[0] == "choice"])
    return (choices, len(labels), [label_key(switches, label) for label in labels])
