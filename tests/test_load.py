"""load: what is read, what is too long."""

from tests.helper import EXAMPLE, SHOWN, TOLD, Case, load


class Length(Case):
    def test_1500_bytes_are_read(self):
        text = EXAMPLE + " " * (1500 - len(EXAMPLE))
        self.assertEqual(self.ask(load(text)), [[0, 1, 3]])

    def test_1501_bytes_are_refused_and_the_text_stays(self):
        text = "add 1;" + " " * 1495
        self.assertEqual(len(text), 1501)
        each = self.ask(load(EXAMPLE), SHOWN, load(text), SHOWN)
        self.assertEqual(each[2], [-1])
        self.assertEqual(each[3], each[1])

    def test_too_long_comes_ahead_of_any_fault(self):
        self.assertEqual(self.ask(load("?" * 1501), load("?" * 1600), load("?" * 1500)), [[-1], [-1], [1, 1, 0]])

    def test_the_end_of_1500_bytes(self):
        self.assert_fault("add" + " " * 1497, 2, 1500)


class Counts(Case):
    def test_the_empty_text(self):
        self.assertEqual(self.ask(load(""), TOLD), [[0, 0, 0], [0, 0]])

    def test_blanks_alone(self):
        self.assertEqual(self.ask(load(" \n\n "), TOLD), [[0, 0, 0], [0, 0]])

    def test_files_alone(self):
        self.assertEqual(self.ask(load("file 3 { } file 1 { 0 }")), [[0, 2, 0]])

    def test_steps_alone(self):
        self.assertEqual(self.ask(load("remove 3; remove 3;")), [[0, 0, 2]])

    def test_as_many_as_there_may_be(self):
        text = "".join(f"file{name}{{}}" for name in range(10)) + "add 0;" * 20
        self.assertEqual(self.ask(load(text)), [[0, 10, 20]])

    def test_a_step_is_read_whether_it_fits_or_not(self):
        text = "file 0 { 1 } remove 0; add 0; swap 5 1 2; move 7 0; hunk 0 at 1000 { 9 } { };"
        self.assertEqual(self.ask(load(text)), [[0, 1, 5]])


class Blanks(Case):
    def assert_reads_as_example(self, text):
        each = self.ask(load(EXAMPLE), TOLD, load(text), TOLD)
        self.assertEqual(each[2], [0, 1, 3], text)
        self.assertEqual(each[3], each[1])

    def test_none_where_none_is_needed(self):
        self.assert_reads_as_example("file 0{1 2 3}hunk 0at 1{2}{7 8};swap 0 1 3;move 0 4;")

    def test_none_between_a_word_and_a_number(self):
        self.assert_reads_as_example("file0{1 2 3}hunk0at1{2}{7 8};swap0 1 3;move0 4;")

    def test_some_everywhere(self):
        self.assert_reads_as_example("\n  " + EXAMPLE.replace(" ", " \n ").replace(";", "\n;") + " \n\n")

    def test_line_feeds_alone(self):
        self.assert_reads_as_example(EXAMPLE.replace(" ", "\n"))

    def test_two_numbers_side_by_side_are_one(self):
        self.assertEqual(self.ask(load("file 0 {12}"), TOLD)[1], [1, 0, 1, 12, 0])

    def test_a_word_side_by_side_with_a_word_is_another(self):
        self.assert_fault_at("|addadd 1;", 2)

    def test_a_word_cut_in_two(self):
        self.assert_fault_at("|mo ve 0 1;", 2)

    def test_a_number_cut_in_two(self):
        self.assert_fault_at("add 1 |2;", 2)
