"""turned and steps: the row of steps turned round, in the one form and as numbers."""

from tests.helper import EXAMPLE, GOES, SHOWN, STEPS, TOLD, TURNED, Case, as_shown, steps_apart, tree


class Turned(Case):
    def assert_turned(self, text, form, row):
        turned, steps = self.ask_of(text, TURNED, STEPS)
        self.assertEqual(as_shown(turned), form)
        self.assertEqual(steps, row)

    def test_the_example(self):
        form = "move 4 0;\nswap 0 1 3;\nhunk 0 at 1 { 7 8 } { 2 };\n"
        self.assert_turned(EXAMPLE, form, [3, 4, 4, 0, 1, 0, 1, 3, 0, 0, 1, 2, 7, 8, 1, 2])
        self.assertEqual(self.ask_of(EXAMPLE, TURNED)[0][0], 49)

    def test_no_steps(self):
        for text in ("", "file 0 { 1 }", "file 0 { } file 1 { }"):
            self.assertEqual(self.ask_of(text, TURNED, STEPS), [[0], [0]])

    def test_a_hunk(self):
        self.assert_turned("hunk 2 at 7 { 1 2 } { 3 };", "hunk 2 at 7 { 3 } { 1 2 };\n", [1, 0, 2, 7, 1, 3, 2, 1, 2])

    def test_a_hunk_that_puts_or_takes_alone(self):
        self.assert_turned("hunk 2 at 0 { } { 3 4 };", "hunk 2 at 0 { 3 4 } { };\n", [1, 0, 2, 0, 2, 3, 4, 0])
        self.assert_turned("hunk 2 at 1000 { 3 4 } { };", "hunk 2 at 1000 { } { 3 4 };\n", [1, 0, 2, 1000, 0, 2, 3, 4])

    def test_a_swap_keeps_the_order_of_its_tokens(self):
        self.assert_turned("swap 1 5 6;", "swap 1 5 6;\n", [1, 1, 1, 5, 6])
        self.assert_turned("swap 1 6 5;", "swap 1 6 5;\n", [1, 1, 1, 6, 5])

    def test_added_and_removed(self):
        self.assert_turned("add 3;", "remove 3;\n", [1, 3, 3])
        self.assert_turned("remove 9;", "add 9;\n", [1, 2, 9])

    def test_moved(self):
        self.assert_turned("move 3 0;", "move 0 3;\n", [1, 4, 0, 3])

    def test_the_last_one_first(self):
        text = "hunk 0 at 1 { 2 } { }; swap 1 2 3; add 4; remove 5; move 6 7; add 8;"
        form = "remove 8;\nmove 7 6;\nadd 5;\nremove 4;\nswap 1 2 3;\nhunk 0 at 1 { } { 2 };\n"
        self.assert_turned(text, form, [6, 3, 8, 4, 7, 6, 2, 5, 3, 4, 1, 1, 2, 3, 0, 0, 1, 0, 1, 2])

    def test_whether_the_steps_fit_or_not(self):
        self.assert_turned("remove 0; move 1 2; remove 0;", "add 0;\nmove 2 1;\nadd 0;\n", [3, 2, 0, 4, 2, 1, 2, 0])

    def test_twenty_steps(self):
        text = "".join(f"add {n % 10};" for n in range(20))
        form = "".join(f"remove {n % 10};\n" for n in range(19, -1, -1))
        self.assert_turned(text, form, [20] + [number for n in range(19, -1, -1) for number in (3, n % 10)])


class Back(Case):
    TEXT = ("file 0 { 1 2 3 } file 1 { } hunk 0 at 1 { 2 } { 7 8 }; swap 0 1 3; move 0 4; remove 1; add 0;"
            "hunk 0 at 0 { } { 5 }; move 4 1;")

    def test_turned_twice_is_as_it_was(self):
        told, turned, steps = self.ask_of(self.TEXT, TOLD, TURNED, STEPS)
        form = as_shown(turned)
        shown_back, steps_back, turned_back = self.ask_of(form, SHOWN, STEPS, TURNED)
        self.assertEqual(as_shown(shown_back), form)
        self.assertTrue(as_shown(self.ask_of(self.TEXT, SHOWN)[0]).endswith(as_shown(turned_back)))
        self.assertEqual(told[len(told) - len(steps_back):], steps_back)
        self.assertEqual(steps_apart(steps)[0], [4, 1, 4])

    def test_they_lead_back(self):
        behind = self.ask_of(self.TEXT, tree(7), TURNED)
        self.assertEqual(behind[0], [2, 0, 1, 5, 1, 4, 3, 7, 8, 1])
        text = "file 0 { 5 } file 1 { 3 7 8 1 }" + as_shown(behind[1])
        self.assertEqual(self.ask_of(text, GOES, tree(7)), [[7, 0], [2, 0, 3, 1, 2, 3, 1, 0]])

    def test_the_text_stays_as_it_is(self):
        around = (SHOWN, TOLD, tree(0), tree(7), GOES)
        each = self.ask_of(self.TEXT, *around, TURNED, STEPS, TURNED, STEPS, *around)
        self.assertEqual(each[:5], each[9:])
        self.assertEqual(each[5:7], each[7:9])
