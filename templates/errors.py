"""All errors of the package."""


class TemplateError(ValueError):
    """The base class of all errors of the package."""


class BadSize(TemplateError):
    """A size is an integer from 1 to 4."""


class BadRelation(TemplateError):
    """A relation is a pair (arity, ascending tuple of different rows)."""


class BadArity(TemplateError):
    """An arity is not allowed, or two arities do not fit."""


class BadPlaces(TemplateError):
    """Places, or variables that are told, are not allowed."""


class BadOperation(TemplateError):
    """An operation is a pair (arity, table of its values)."""


class BadArguments(TemplateError):
    """Arguments of an operation, or given operations, are not allowed."""


class BadTemplate(TemplateError):
    """A value is no template; index tells the first wrong relation, or is None."""

    def __init__(self, index):
        TemplateError.__init__(self, f"not a template (index {index})")
        self.index = index


class BadInstance(TemplateError):
    """A value is no instance; index tells the first wrong constraint, or is None."""

    def __init__(self, index):
        TemplateError.__init__(self, f"not an instance (index {index})")
        self.index = index


class BadNames(TemplateError):
    """Names are a permutation of the values, told as a tuple."""


class NotText(TemplateError):
    """A text is a string."""


class InvalidText(TemplateError):
    """A text cannot be read; line and word, counted from 1, tell where."""

    def __init__(self, line, word):
        TemplateError.__init__(self, f"text not allowed (line {line}, word {word})")
        self.line = line
        self.word = word


class TooMany(TemplateError):
    """There are more things than most, the greatest number that is allowed."""

    def __init__(self, most):
        TemplateError.__init__(self, f"more than {most}")
        self.most = most


class BadTerm(TemplateError):
    """A value is no term; index tells the first wrong step, or is None."""

    def __init__(self, index):
        TemplateError.__init__(self, f"not a term (index {index})")
        self.index = index


class BadFormula(TemplateError):
    """A value is no formula; index tells the first wrong atom, or is None."""

    def __init__(self, index):
        TemplateError.__init__(self, f"not a formula (index {index})")
        self.index = index


class BadCondition(TemplateError):
    """A value is no condition; index tells the first wrong equation, or is None."""

    def __init__(self, index):
        TemplateError.__init__(self, f"not a condition (index {index})")
        self.index = index


class NotAffine(TemplateError):
    """A relation is not affine, or has no rows."""


class NotBoolean(TemplateError):
    """A template has not just two values."""


class BadShape(TemplateError):
    """Two templates do not have the same shape."""


class BadGraph(TemplateError):
    """Edges are an ascending tuple of different pairs (a, b), a at most b."""


class BadCosts(TemplateError):
    """A value is no costs; index tells the first wrong cost function, or is None."""

    def __init__(self, index):
        TemplateError.__init__(self, f"not costs (index {index})")
        self.index = index


class BadTerms(TemplateError):
    """A value is no instance of costs; index tells the first wrong term, or is None."""

    def __init__(self, index):
        TemplateError.__init__(self, f"not an instance of costs (index {index})")
        self.index = index


class NotBinary(TemplateError):
    """Costs have not just two values."""


class NotSubmodular(TemplateError):
    """Costs are not submodular."""


class BadFormulas(TemplateError):
    """Formulas do not fit; index tells the first one that does not, or is None."""

    def __init__(self, index):
        TemplateError.__init__(self, f"formulas that do not fit (index {index})")
        self.index = index
