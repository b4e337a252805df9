import unittest

from linepress.errors import LineError, NoChoice, NoPiece, NoRoom


class Refusals(unittest.TestCase):
    def test_a_line_error_is_a_value_error(self):
        self.assertTrue(issubclass(LineError, ValueError))

    def test_each_refusal_is_a_line_error_and_no_other_refusal(self):
        refusals = (NoChoice, NoRoom, NoPiece)
        for one in refusals:
            self.assertTrue(issubclass(one, LineError))
            self.assertFalse(issubclass(LineError, one))
            for other in refusals:
                self.assertEqual(issubclass(one, other), one is other, (one, other))

    def test_no_piece_bears_its_number(self):
        with self.assertRaises(LineError) as caught:
            raise NoPiece(201)
        self.assertEqual(caught.exception.at, 201)
        self.assertIs(type(caught.exception.at), int)

    def test_the_number_is_each_object_s_own(self):
        one = NoPiece(1)
        other = NoPiece(2)
        self.assertEqual((one.at, other.at), (1, 2))


if __name__ == "__main__":
    unittest.main()
