"""Patches and edits of expressions."""

from manybuilds.errors import BadEdit, BadPatch, Clash, Unfit
from manybuilds.lines import judge_expression
from manybuilds.trees import is_number, is_tree, label_of, node_at, part_indexes, with_node


def is_patch(thing):
    """Whether any value is a patch."""
    if not isinstance(thing, tuple) or len(thing) != 4:
        return False
    tag, path, old, new = thing
    if not isinstance(tag, str) or tag != "patch" or not isinstance(path, tuple):
        return False
    if not all(is_number(index) and 1 <= index <= 3 for index in path):
        return False
    return is_tree(old, ()) and is_tree(new, ()) and label_of(old) != label_of(new)


def judge_patch(patch):
    """Refuse what is no patch."""
    if not is_patch(patch):
        raise BadPatch("this is no patch")


def begins(path, other):
    """Whether the path is the beginning of the other one, or equal to it."""
    return other[:len(path)] == path


def is_edit(thing):
    """Whether any value is an edit."""
    if not isinstance(thing, tuple) or not all(is_patch(patch) for patch in thing):
        return False
    paths = [patch[1] for patch in thing]
    # In ascending paths the first one behind a path that goes on with it would do so.
    return all(one < other and not begins(one, other) for one, other in zip(paths, paths[1:]))


def fits(expression, patch):
    """Whether the patch fits the expression."""
    node = node_at(expression, patch[1])
    return node is not None and node == patch[2]


def patched(expression, patches):
    """The expression with the new nodes of all these patches, none of which is within another one."""
    for _, path, _, new in patches:
        expression = with_node(expression, path, new)
    return expression


def edited(expression, edit):
    """The expression that is edited by all patches."""
    judge_expression(expression)
    if not is_edit(edit):
        raise BadEdit("this is no edit")
    if not all(fits(expression, patch) for patch in edit):
        raise Unfit("a patch does not fit the expression")
    return patched(expression, edit)


def between(one, other):
    """The edit that makes the other expression of the one."""
    judge_expression(one)
    judge_expression(other)
    return tuple(edit_between((), one, other))


def edit_between(path, one, other):
    """The patches that make the other expression of the one, which stands at the path."""
    if label_of(one) != label_of(other):
        return [("patch", path, one, other)]
    patches = []
    for index in part_indexes(one):
        patches.extend(edit_between(path + (index,), one[index], other[index]))
    return patches


def clash_path(mine, yours):
    """The shorter path of the first pair of the patches of two edits that clashes, or None."""
    for one in mine:
        for other in yours:
            if one != other and begins(one[1], other[1]):
                return one[1]
            if one != other and begins(other[1], one[1]):
                return other[1]
    return None


def merged_edits(base, mine, yours):
    """The base edited by the patches of both edits; Clash."""
    path = clash_path(mine, yours)
    if path is not None:
        raise Clash(path)
    return patched(patched(base, mine), [patch for patch in yours if patch not in mine])


def merge(base, one, other):
    """The base edited by what makes the one of it and by what makes the other of it."""
    judge_expression(base)
    judge_expression(one)
    judge_expression(other)
    return merged_edits(base, edit_between((), base, one), edit_between((), base, other))
