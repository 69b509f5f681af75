import unittest

from heapsafe.errors import HeapError, NoDeed, NoField, NoLog, NoRoom, NoThing

REFUSALS = (NoDeed, NoLog, NoThing, NoField, NoRoom)


class TheErrors(unittest.TestCase):
    def test_heap_error_is_a_value_error(self):
        self.assertTrue(issubclass(HeapError, ValueError))
        self.assertIsNot(HeapError, ValueError)

    def test_each_refusal_stands_under_heap_error(self):
        for refusal in REFUSALS:
            self.assertTrue(issubclass(refusal, HeapError), refusal)
            self.assertTrue(issubclass(refusal, ValueError), refusal)
            self.assertIsNot(refusal, HeapError)

    def test_no_refusal_stands_under_another(self):
        for one in REFUSALS:
            for other in REFUSALS:
                self.assertEqual(issubclass(one, other), one is other, (one, other))

    def test_rows_are_there(self):
        for refusal in (NoDeed, NoLog):
            for row in (1, 2, 1000):
                with self.assertRaises(HeapError) as told:
                    raise refusal(row)
                self.assertIs(type(told.exception), refusal)
                self.assertIs(type(told.exception.row), int)
                self.assertEqual(told.exception.row, row)

    def test_two_errors_have_rows_of_their_own(self):
        first, second = NoDeed(1), NoDeed(2)
        self.assertEqual((first.row, second.row), (1, 2))

    def test_those_without_rows_are_raised_and_taken_as_any_refusal(self):
        for refusal in (NoThing, NoField, NoRoom):
            with self.assertRaises(HeapError) as told:
                raise refusal()
            self.assertIs(type(told.exception), refusal)


if __name__ == "__main__":
    unittest.main()
