"""Every example of the document, the ones that raise included."""

import unittest

from tests.examples import all_names, blocks, examples


class Examples(unittest.TestCase):
    def test_all_examples(self):
        names = all_names()
        count = 0
        for point, lines in blocks():
            for put, told in examples(lines):
                with self.subTest(point=point, put=put):
                    self.run_one(names, put, told)
                    count += 1
        self.assertEqual(count, 146)

    def run_one(self, names, put, told):
        if told is None:
            exec(put, names)
        elif told.startswith("raises "):
            self.expect_error(names, put, told[len("raises "):])
        else:
            result = eval(put, names)
            self.assertEqual(repr(result), repr(eval(told, {})))

    def expect_error(self, names, put, told):
        name, _, rest = told.partition("(")
        expected = eval("dict(" + rest, {})
        with self.assertRaises(names[name]) as caught:
            eval(put, names)
        self.assertIs(type(caught.exception), names[name])
        kept = {key: getattr(caught.exception, key) for key in expected}
        self.assertEqual(repr(kept), repr(expected))

    def test_each_point_is_there(self):
        self.assertEqual([point for point, _ in blocks()], [f"[{number}]" for number in range(4, 27)])
