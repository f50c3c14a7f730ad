"""[38] The error classes."""

import unittest

from readagain import errors


class Errors(unittest.TestCase):
    def test_each_stands_directly_under_format_error_and_has_its_attributes(self):
        thing = ["some", "thing"]
        kinds = {
            "BadSort": ("thing",), "BadFormat": ("thing",), "BadThing": ("thing",), "BadText": ("place",),
            "ManyValues": ("text",), "TooLarge": ("most",), "BadPair": ("why",), "BadSource": ("line", "column"),
            "BadDeed": ("deed",)}
        for name, attributes in kinds.items():
            with self.subTest(name):
                kind = getattr(errors, name)
                self.assertEqual(kind.__bases__, (errors.FormatError,))
                told = [(thing, number) for number in range(len(attributes))]
                error = kind(*told)
                for attribute, what in zip(attributes, told):
                    self.assertIs(getattr(error, attribute), what)
                with self.assertRaises(errors.FormatError):
                    raise error

    def test_format_error_is_an_error(self):
        self.assertTrue(issubclass(errors.FormatError, Exception))


if __name__ == "__main__":
    unittest.main()
