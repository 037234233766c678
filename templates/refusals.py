"""Steps that show that two variables, or one, can have no values."""

from templates.checks import is_integer, is_tuple
from templates.narrowing import Narrowing, rows_left
from templates.pairing import Pairs, Taking
from templates.structures import check_instance, check_template


def pair_refusal(template, instance):
    """Steps that take pairs away until some two variables have none left, None if all keep some."""
    check_template(template)
    check_instance(template, instance)
    taking = Taking(template, instance)
    return None if taking.run() else tuple(taking.steps)


def shows_pair_refusal(template, instance, value):
    """Whether a value is a tuple of such steps."""
    check_template(template)
    check_instance(template, instance)
    if not isinstance(value, tuple):
        return False
    count = instance[0]
    pairs = Pairs(template[0], count)
    for step in value:
        if not _is_pair_step(template, instance, step) or not _takes_pair(template, instance, pairs, step):
            return False
        pairs.take(step[0], step[1], step[2], step[3])
    return any([pairs.are_gone(one, other) for one in range(count) for other in range(count)])


def _is_pair_step(template, instance, step):
    """Whether a value has the form of a step that takes a pair away."""
    if not is_tuple(step, 6, 6):
        return False
    count, last = instance[0], template[0] - 1
    if not all(is_integer(variable, 0, count - 1) for variable in step[:2]):
        return False
    if not all(is_integer(value, 0, last) for value in step[2:4]):
        return False
    if step[4] == "row":
        return is_integer(step[5], 0, len(instance[1]) - 1)
    return step[4] == "third" and is_integer(step[5], 0, count - 1)


def _takes_pair(template, instance, pairs, step):
    """Whether a step names a pair that is still there, and a right reason to take it away."""
    one, other, value, second, word, reason = step
    if not pairs.has(one, other, value, second):
        return False
    if word == "third":
        return pairs.lack_third(one, other, value, second, reason)
    index, scope = instance[1][reason]
    if one not in scope or other not in scope:
        return False
    for row in template[1][index][1]:
        if row[scope.index(one)] == value and row[scope.index(other)] == second and _has_all(pairs, scope, row):
            return False
    return True


def _has_all(pairs, scope, row):
    """Whether a row gives each two variables of the scope, also the same one twice, a pair that is still there.

    A variable with itself has only pairs of equal values, so that the row gives each variable one value.
    """
    for one, value in zip(scope, row):
        for other, second in zip(scope, row):
            if not pairs.has(one, other, value, second):
                return False
    return True


def arc_refusal(template, instance):
    """Steps that take values away until a variable has none left, None if all keep some."""
    check_template(template)
    check_instance(template, instance)
    narrowing = Narrowing(template, instance)
    return None if narrowing.run() else tuple(narrowing.steps)


def shows_arc_refusal(template, instance, value):
    """Whether a value is a tuple of such steps."""
    check_template(template)
    check_instance(template, instance)
    if not isinstance(value, tuple):
        return False
    masks = [(1 << template[0]) - 1] * instance[0]
    for step in value:
        if not _is_arc_step(template, instance, step) or not _takes_value(template, instance, masks, step):
            return False
        masks[step[0]] = masks[step[0]] & ~(1 << step[1])
    return 0 in masks


def _is_arc_step(template, instance, step):
    """Whether a value has the form of a step that takes a value away, at a place of a scope."""
    if not is_tuple(step, 4, 4):
        return False
    variable, value, index, place = step
    if not is_integer(variable, 0, instance[0] - 1) or not is_integer(value, 0, template[0] - 1):
        return False
    if not is_integer(index, 0, len(instance[1]) - 1):
        return False
    return is_integer(place, 0, len(instance[1][index][1]) - 1)


def _takes_value(template, instance, masks, step):
    """Whether a step names a value that is still there, and a right reason to take it away."""
    variable, value, number, place = step
    index, scope = instance[1][number]
    if scope[place] != variable or not (masks[variable] >> value) & 1:
        return False
    return all([row[place] != value for row in rows_left(template[1][index][1], scope, masks)])
