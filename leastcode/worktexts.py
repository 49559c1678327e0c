"""The texts of works."""

from leastcode.works import work_of


def show_work(work):
    """The text of a work."""
    return str(work)


def read_work(text):
    """The work with this text; raises BadText for any other value, then as Work."""
    return work_of(text)
