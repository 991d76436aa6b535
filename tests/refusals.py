"""How a refusal is asked for: by its own class, and by WeaveError."""

import unittest

from weavehall.errors import WeaveError


class RefusalCase(unittest.TestCase):
    def assert_refused(self, error_class, call, *handed):
        """The call refuses with just this class; the thing itself is not shown, as some can't be."""
        try:
            call(*handed)
        except WeaveError as error:
            self.assertIs(type(error), error_class)
        else:
            self.fail(f"{call.__name__} refused nothing where {error_class.__name__} is told")
