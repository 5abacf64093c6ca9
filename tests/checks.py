"""A base for tests that look at the errors of functions."""

import unittest


class ErrorCase(unittest.TestCase):

    def fails(self, error, attribute, value, call, /, *arguments, **named):
        """The call raises just this error, which keeps just this value (by `is`)."""
        with self.assertRaises(error) as caught:
            call(*arguments, **named)
        self.assertIs(type(caught.exception), error)
        if attribute is None:
            self.assertEqual(vars(caught.exception), {})
        else:
            self.assertEqual(list(vars(caught.exception)), [attribute])
            self.assertIs(getattr(caught.exception, attribute), value)

    def fails_given(self, error, value, call, /, *arguments, **named):
        """The call raises just this error, which was given just this value."""
        self.fails(error, "given", value, call, *arguments, **named)
