"""What several test files need to look at refusals."""

import unittest


class Refusing(unittest.TestCase):
    """Test cases that ask which refusal goes, and with which values."""

    def refuses(self, kind, values, call, *given, **named):
        """Checks that the call raises this very class with these values, told as a dict."""
        with self.assertRaises(kind) as caught:
            call(*given, **named)
        self.assertIs(type(caught.exception), kind)
        self.assertEqual(caught.exception.word, kind.__name__)
        borne = {name: worth for name, worth in vars(caught.exception).items() if name != "word"}
        self.assertEqual(borne, values)
