"""The errors that the package raises."""


class BreadcrumbsError(ValueError):
    """The base of all errors of the package."""


class InvalidSiteError(BreadcrumbsError):
    """A value is not a site."""


class InvalidPageError(BreadcrumbsError):
    """A value is not a page, or not one of the site."""


class InvalidPagesError(BreadcrumbsError):
    """A value is not a list of different pages of the site."""


class InvalidTrailError(BreadcrumbsError):
    """A value is not a trail, or not one of the site."""


class InvalidVisitsError(BreadcrumbsError):
    """A value is not visits, or not such as the function takes."""


class InvalidEffectError(BreadcrumbsError):
    """A value is not an effect, or its parts do not make one."""


class InvalidLengthsError(BreadcrumbsError):
    """A value is not the lengths of visits."""


class InvalidNumberError(BreadcrumbsError):
    """A value is not an integer, or it is outside its limits."""


class InvalidFormatError(BreadcrumbsError):
    """A value is not a string of the form that is read."""


class EmptyHistoryError(BreadcrumbsError):
    """There is no call to revert."""
