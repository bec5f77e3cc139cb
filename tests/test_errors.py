import unittest

from helper import REFUSALS, check_refused
from primetree.errors import TooFar, TreeError

OF_ONE_TEXT = tuple(refusal for refusal in REFUSALS if refusal is not TooFar)


def raise_it(refusal, made_of):
    raise refusal(made_of)


class TestRefusals(unittest.TestCase):
    def test_the_base_stands_under_value_error(self):
        self.assertEqual(TreeError.__bases__, (ValueError,))
        self.assertIsInstance(TreeError("words"), ValueError)

    def test_each_stands_straight_under_the_base(self):
        self.assertEqual(len(set(REFUSALS)), 10)
        for refusal in REFUSALS:
            self.assertEqual(refusal.__bases__, (TreeError,), refusal)

    def test_none_stands_under_another_one(self):
        for one in REFUSALS:
            for other in REFUSALS:
                self.assertEqual(issubclass(one, other), one is other, (one, other))

    def test_each_is_made_of_one_text_and_raised(self):
        self.assertEqual(len(OF_ONE_TEXT), 9)
        for refusal in OF_ONE_TEXT:
            check_refused(self, refusal, raise_it, refusal, "some words")

    def test_the_base_is_raised_and_taken_by_no_refusal(self):
        with self.assertRaises(ValueError) as caught:
            raise_it(TreeError, "some words")
        self.assertFalse(isinstance(caught.exception, REFUSALS))


class TestTooFar(unittest.TestCase):
    def test_far_is_told(self):
        for far in (0, 501, 502, 10 ** 6):
            self.assertEqual(TooFar(far).far, far)

    def test_far_is_by_its_name(self):
        self.assertEqual(TooFar(far=777).far, 777)

    def test_far_is_of_each_object_its_own(self):
        one = TooFar(501)
        other = TooFar(900)
        self.assertEqual((one.far, other.far), (501, 900))

    def test_far_is_there_when_taken(self):
        check_refused(self, TooFar, raise_it, TooFar, 612)
        with self.assertRaises(TreeError) as caught:
            raise_it(TooFar, 612)
        self.assertEqual(caught.exception.far, 612)


if __name__ == "__main__":
    unittest.main()
