"""shown and told: the one form, and the same as numbers."""

from tests.helper import EXAMPLE, SHOWN, TOLD, Case, as_shown

STEPS = "hunk 0 at 10 { 1 22 } { 3 };hunk 1 at 0 { } { 4 };hunk 2 at 1000 { 5 } { };swap 3 6 7;add 8;remove 9;move 5 4;"
STEPS_FORM = """hunk 0 at 10 { 1 22 } { 3 };
hunk 1 at 0 { } { 4 };
hunk 2 at 1000 { 5 } { };
swap 3 6 7;
add 8;
remove 9;
move 5 4;
"""


class Shown(Case):
    def form(self, text):
        return as_shown(self.ask_of(text, SHOWN)[0])

    def test_the_empty_text(self):
        self.assertEqual(self.ask_of("", SHOWN), [[0]])
        self.assertEqual(self.ask_of(" \n ", SHOWN), [[0]])

    def test_the_example(self):
        expected = "file 0 { 1 2 3 }\nhunk 0 at 1 { 2 } { 7 8 };\nswap 0 1 3;\nmove 0 4;\n"
        self.assertEqual(self.form(EXAMPLE), expected)
        self.assertEqual(self.ask_of(EXAMPLE, SHOWN)[0][0], 66)

    def test_files_by_rising_names(self):
        self.assertEqual(self.form("file 9{7 8}file 0{}file 4{0}"), "file 0 { }\nfile 4 { 0 }\nfile 9 { 7 8 }\n")
        backward = "".join(f"file{name}{{{name}}}" for name in range(9, -1, -1))
        self.assertEqual(self.form(backward), "".join(f"file {name} {{ {name} }}\n" for name in range(10)))

    def test_each_step_and_rows_without_tokens(self):
        self.assertEqual(self.form(STEPS), STEPS_FORM)

    def test_steps_stay_in_their_order(self):
        self.assertEqual(self.form("move 9 0;add 1;move 1 2;add 1;"), "move 9 0;\nadd 1;\nmove 1 2;\nadd 1;\n")

    def test_blanks_mean_nothing(self):
        spread = "\n" + STEPS.replace(" ", "\n\n").replace(";", " ; ") + "\n"
        self.assertEqual(self.form(spread), STEPS_FORM)

    def test_the_one_form_is_its_own(self):
        for text in (EXAMPLE, STEPS, "file 3{1 2}file 2{}" + STEPS):
            form = self.form(text)
            self.assertEqual(self.form(form), form)


class Told(Case):
    def test_the_empty_text(self):
        self.assertEqual(self.ask_of("", TOLD), [[0, 0]])

    def test_a_tree_by_rising_names(self):
        text = "file 5 { 9 9 } file 2 { } file 3 { 0 }"
        self.assertEqual(self.ask_of(text, TOLD), [[3, 2, 0, 3, 1, 0, 5, 2, 9, 9, 0]])

    def test_each_step(self):
        expected = [0, 7]
        expected += [0, 0, 10, 2, 1, 22, 1, 3]
        expected += [0, 1, 0, 0, 1, 4]
        expected += [0, 2, 1000, 1, 5, 0]
        expected += [1, 3, 6, 7]
        expected += [2, 8]
        expected += [3, 9]
        expected += [4, 5, 4]
        self.assertEqual(self.ask_of(STEPS, TOLD), [expected])

    def test_a_swap_told_the_other_way_round_is_another_step(self):
        self.assertEqual(self.ask_of("swap 0 2 1; swap 0 1 2;", TOLD), [[0, 2, 1, 0, 2, 1, 1, 0, 1, 2]])

    def test_a_tree_and_steps(self):
        expected = [1, 0, 3, 1, 2, 3, 3, 0, 0, 1, 1, 2, 2, 7, 8, 1, 0, 1, 3, 4, 0, 4]
        self.assertEqual(self.ask_of(EXAMPLE, TOLD), [expected])

    def test_the_tree_is_the_one_ahead_of_all_steps(self):
        self.assertEqual(self.ask_of("file 1 { 4 } move 1 2; add 1;", TOLD), [[1, 1, 1, 4, 2, 4, 1, 2, 2, 1]])
