"""file: the tokens of one file behind the first n steps."""

from tests.helper import EXAMPLE, FAR, GOES, SHOWN, TOLD, Case, file, load


class There(Case):
    def test_the_example(self):
        self.assertEqual(self.ask_of(EXAMPLE, file(3, 4)), [[1, 4, 3, 7, 8, 1]])

    def test_at_each_number_of_steps(self):
        expected = [[1, 3, 1, 2, 3], [1, 4, 1, 7, 8, 3], [1, 4, 3, 7, 8, 1], [0]]
        self.assertEqual(self.ask_of(EXAMPLE, *[file(n, 0) for n in range(4)]), expected)
        self.assertEqual(self.ask_of(EXAMPLE, *[file(n, 4) for n in range(4)]), [[0]] * 3 + [[1, 4, 3, 7, 8, 1]])

    def test_an_empty_file(self):
        text = "file 3 { } file 4 { 1 } hunk 4 at 0 { 1 } { }; remove 4; add 4;"
        self.assertEqual(self.ask_of(text, file(0, 3), file(3, 3)), [[1, 0], [1, 0]])
        self.assertEqual(self.ask_of(text, *[file(n, 4) for n in range(4)]), [[1, 1, 1], [1, 0], [0], [1, 0]])

    def test_a_name_that_no_file_has(self):
        text = "file 0 { 1 } file 2 { 2 } file 9 { 3 }"
        expected = [[1, 1, 1], [0], [1, 1, 2]] + [[0]] * 6 + [[1, 1, 3]]
        self.assertEqual(self.ask_of(text, *[file(0, name) for name in range(10)]), expected)

    def test_a_text_without_files(self):
        self.assertEqual(self.ask_of("", file(0, 0), file(0, 9)), [[0], [0]])

    def test_a_file_that_has_grown(self):
        text = "file 0 { " + "1 " * 40 + "}" + "hunk 0 at 40 { } { 1 2 3 4 5 6 7 8 };" * 20
        self.assertEqual(self.ask_of(text, file(20, 0)), [[1, 200] + [1] * 40 + [1, 2, 3, 4, 5, 6, 7, 8] * 20])

    def test_the_text_stays_as_it_is(self):
        around = (SHOWN, TOLD, GOES)
        each = self.ask_of(EXAMPLE, *around, file(0, 0), file(3, 4), file(2, 0), *around, file(0, 0))
        self.assertEqual(each[:3], each[6:9])
        self.assertEqual(each[3], each[9])


class Refused(Case):
    # The second step doesn't fit.
    TEXT = "file 0 { 1 } add 1; add 1; add 2;"
    OUTSIDE = (-1, 10, 11, FAR, -FAR)

    def test_no_text_comes_first(self):
        for n in (-1, 0, 1, FAR):
            for name in (0, 9) + self.OUTSIDE:
                self.assertEqual(self.ask(file(n, name)), [[-8]])
        self.assertEqual(self.ask(load("?"), file(0, 0), load(" " * 1501), file(0, 0)), [[1, 1, 0], [-8], [-1], [-8]])

    def test_then_a_number_outside(self):
        for n in (-1, 4, FAR, -FAR):
            for name in (0, 9) + self.OUTSIDE:
                self.assertEqual(self.ask_of(self.TEXT, file(n, name)), [[-3]])

    def test_then_a_step_that_does_not_fit(self):
        for n in (2, 3):
            for name in (0, 9) + self.OUTSIDE:
                self.assertEqual(self.ask_of(self.TEXT, file(n, name)), [[-4]])

    def test_then_a_name_outside(self):
        for n in (0, 1):
            for name in self.OUTSIDE:
                self.assertEqual(self.ask_of(self.TEXT, file(n, name)), [[-2]])

    def test_none_at_0_and_at_9(self):
        self.assertEqual(self.ask_of("file 0 { 5 } file 9 { 6 }", file(0, 0), file(0, 9)), [[1, 1, 5], [1, 1, 6]])
