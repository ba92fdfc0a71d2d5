"""The errors of the package, all of them straight under CellError."""


class CellError(ValueError):
    """The base of all errors of this package."""


class InvalidFraction(CellError):
    """No fraction in lowest terms; given is what was passed."""

    def __init__(self, given):
        super().__init__("no fraction in lowest terms")
        self.given = given


class InvalidNumber(CellError):
    """No whole number of the told range; given is what was passed."""

    def __init__(self, given):
        super().__init__("no whole number of the told range")
        self.given = given


class InvalidDimension(CellError):
    """No dimension of the told range; given is what was passed."""

    def __init__(self, given):
        super().__init__("no dimension of the told range")
        self.given = given


class InvalidKind(CellError):
    """Neither whole nor trimmed; given is what was passed."""

    def __init__(self, given):
        super().__init__("neither whole nor trimmed")
        self.given = given


class InvalidDegree(CellError):
    """No degree of the told range; given is what was passed."""

    def __init__(self, given):
        super().__init__("no degree of the told range")
        self.given = given


class InvalidSort(CellError):
    """No sort of the told range; given is what was passed."""

    def __init__(self, given):
        super().__init__("no sort of the told range")
        self.given = given


class InvalidIndex(CellError):
    """No index of a cell; given is what was passed."""

    def __init__(self, given):
        super().__init__("no index of a cell")
        self.given = given


class InvalidForm(CellError):
    """No form of the told dimension and sort; given is what was passed."""

    def __init__(self, given):
        super().__init__("no form of the told dimension and sort")
        self.given = given


class InvalidFace(CellError):
    """No face of the told cell and dimension; given is what was passed."""

    def __init__(self, given):
        super().__init__("no face of the told cell and dimension")
        self.given = given


class InvalidCorners(CellError):
    """No places of the told kind; given is what was passed."""

    def __init__(self, given):
        super().__init__("no places of the told kind")
        self.given = given


class InvalidWeight(CellError):
    """No weight for the dimension and the sort; given is what was passed."""

    def __init__(self, given):
        super().__init__("no weight for the dimension and the sort")
        self.given = given


class InvalidTest(CellError):
    """No test for the sort on a cell of the told dimension; given is what was passed."""

    def __init__(self, given):
        super().__init__("no test for the sort on a cell of the told dimension")
        self.given = given


class InvalidElement(CellError):
    """No pair of forms and tests of the told kind; given is what was passed."""

    def __init__(self, given):
        super().__init__("no pair of forms and tests of the told kind")
        self.given = given


class InvalidParting(CellError):
    """No parting; given is what was passed."""

    def __init__(self, given):
        super().__init__("no parting")
        self.given = given


class InvalidChain(CellError):
    """No chain of the parting and the told dimension; given is what was passed."""

    def __init__(self, given):
        super().__init__("no chain of the parting and the told dimension")
        self.given = given


class InvalidForms(CellError):
    """No forms of one dimension and one sort; index is that of the first wrong one, or None."""

    def __init__(self, index):
        super().__init__("no forms of one dimension and one sort")
        self.index = index


class InvalidWeights(CellError):
    """No weights for the dimension and the sort; index is that of the first wrong one, or None."""

    def __init__(self, index):
        super().__init__("no weights for the dimension and the sort")
        self.index = index


class InvalidNumbers(CellError):
    """Not one fraction for each; index is that of the first wrong one, or None."""

    def __init__(self, index):
        super().__init__("not one fraction for each")
        self.index = index


class InvalidCounts(CellError):
    """Not one count for each dimension; index is that of the first wrong one, or None."""

    def __init__(self, index):
        super().__init__("not one count for each dimension")
        self.index = index


class InvalidHeld(CellError):
    """No faces of the parting; index is that of the first wrong one, or None."""

    def __init__(self, index):
        super().__init__("no faces of the parting")
        self.index = index


class InvalidJoined(CellError):
    """Not one form for each cell; index is that of the first wrong one, or None."""

    def __init__(self, index):
        super().__init__("not one form for each cell")
        self.index = index


class NotJoined(CellError):
    """A trace unlike that of a cell ahead; index is that of its cell."""

    def __init__(self, index):
        super().__init__("a trace unlike that of a cell ahead")
        self.index = index


class NotOfKind(CellError):
    """A form outside of the told span; index is that of its cell."""

    def __init__(self, index):
        super().__init__("a form outside of the told span")
        self.index = index


class UnlikeForms(CellError):
    """Dimensions or sorts of forms that do not go together."""


class UnlikeElements(CellError):
    """Dimensions or sorts of two pairs of forms and tests that do not go together."""


class NotSettled(CellError):
    """Weights that do not settle their forms."""


class NotJoining(CellError):
    """Forms and tests that do not join."""


class NotHeld(CellError):
    """Cell forms that are not held beside the lot."""


class NotClosed(CellError):
    """Cell forms that are not closed."""
