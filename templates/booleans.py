"""Templates and operations on two values, told by the operations and relations that E. Post named."""

from templates.checks import check_given
from templates.clones import term_for
from templates.errors import NotBoolean
from templates.formulas import hull_formula
from templates.operations import keeps
from templates.structures import check_template

KINDS = (
    ("zero", (1, (0, 0))),
    ("one", (1, (1, 1))),
    ("and", (2, (0, 0, 0, 1))),
    ("or", (2, (0, 1, 1, 1))),
    ("majority", (3, (0, 0, 0, 1, 0, 1, 1, 1))),
    ("sum", (3, (0, 1, 1, 0, 1, 0, 0, 1))),
)
CLASSES = (
    ("zero", (1, ((0,),))),
    ("one", (1, ((1,),))),
    ("order", (2, ((0, 0), (0, 1), (1, 1)))),
    ("dual", (2, ((0, 1), (1, 0)))),
    ("sum", (4, ((0, 0, 0, 0), (0, 0, 1, 1), (0, 1, 0, 1), (0, 1, 1, 0),
                 (1, 0, 0, 1), (1, 0, 1, 0), (1, 1, 0, 0), (1, 1, 1, 1)))),
)
EXCHANGE = (1, (1, 0))
NAND = (2, (1, 1, 1, 0))
ONE_OF_THREE = (3, ((0, 0, 1), (0, 1, 0), (1, 0, 0)))


def kinds(template):
    """The names of the operations, among the six, that keep a template."""
    _check_boolean(template)
    return tuple([name for name, operation in KINDS if _has(template, operation)])


def has_not(template):
    """Whether the exchange of both values keeps a template."""
    _check_boolean(template)
    return _has(template, EXCHANGE)


def gadget(template):
    """A formula that tells a relation of three places whose instances are hard, None if there is some kind.

    Without a kind polymorphisms give one of their arguments, or, where the exchange keeps the
    template, also its exchange. So the hull of the rows with just one 1 has these alone, or
    all six rows that are not all equal.
    """
    if kinds(template):
        return None
    return hull_formula(template, ONE_OF_THREE)


def _check_boolean(template):
    check_template(template)
    if template[0] != 2:
        raise NotBoolean("the template has not just two values")


def _has(template, operation):
    return all(keeps(2, operation, relation) for relation in template[1])


def classes(operations):
    """The names of the classes, among the five, that have all of the operations."""
    check_given(2, operations)
    return tuple([name for name, relation in CLASSES if _are_in(operations, relation)])


def _are_in(operations, relation):
    return all(keeps(2, operation, relation) for operation in operations)


def nand_term(operations):
    """A term that makes the operation that is 0 exactly if both arguments are 1, None if there is none."""
    # What is made of operations of a class is in this class; the one looked for is in none.
    if classes(operations):
        return None
    return term_for(2, operations, NAND)
