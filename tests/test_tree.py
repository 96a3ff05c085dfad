"""tree and goes: steps as they fit, and why they don't."""

from tests.helper import EXAMPLE, FAR, GOES, Case, tree


class Fitting(Case):
    def assert_makes(self, text, expected):
        """The text's one step fits, and makes this of the tree."""
        self.assertEqual(self.ask_of(text, tree(1), GOES), [expected, [1, 0]], text)

    def test_a_hunk_in_the_middle(self):
        self.assert_makes("file 0 { 1 2 3 } hunk 0 at 1 { 2 } { 7 8 };", [1, 0, 4, 1, 7, 8, 3])

    def test_a_hunk_at_the_beginning(self):
        self.assert_makes("file 0 { 1 2 3 } hunk 0 at 0 { 1 2 } { 9 };", [1, 0, 2, 9, 3])
        self.assert_makes("file 0 { 1 } hunk 0 at 0 { } { 5 6 };", [1, 0, 3, 5, 6, 1])

    def test_a_hunk_at_the_end(self):
        self.assert_makes("file 0 { 1 2 3 } hunk 0 at 2 { 3 } { 4 };", [1, 0, 3, 1, 2, 4])
        self.assert_makes("file 0 { 1 2 } hunk 0 at 2 { } { 3 };", [1, 0, 3, 1, 2, 3])

    def test_a_hunk_that_takes_alone(self):
        self.assert_makes("file 0 { 1 2 3 } hunk 0 at 1 { 2 3 } { };", [1, 0, 1, 1])

    def test_a_hunk_of_the_whole_file(self):
        self.assert_makes("file 0 { 1 2 } hunk 0 at 0 { 1 2 } { };", [1, 0, 0])
        self.assert_makes("file 0 { } hunk 0 at 0 { } { 1 };", [1, 0, 1, 1])

    def test_a_hunk_with_the_same_tokens(self):
        self.assert_makes("file 0 { 1 2 } hunk 0 at 1 { 2 } { 2 };", [1, 0, 2, 1, 2])

    def test_a_hunk_in_one_of_several_files(self):
        self.assert_makes("file 2 { 1 } file 1 { 1 } hunk 2 at 0 { 1 } { 3 };", [2, 1, 1, 1, 2, 1, 3])

    def test_a_swap(self):
        self.assert_makes("file 0 { 1 2 1 3 2 2 } swap 0 1 2;", [1, 0, 6, 2, 1, 2, 3, 1, 1])
        self.assert_makes("file 0 { 1 2 1 3 2 2 } swap 0 2 1;", [1, 0, 6, 2, 1, 2, 3, 1, 1])

    def test_a_swap_where_one_token_or_none_stands(self):
        self.assert_makes("file 0 { 1 3 } swap 0 1 2;", [1, 0, 2, 2, 3])
        self.assert_makes("file 0 { 2 3 } swap 0 1 2;", [1, 0, 2, 1, 3])
        self.assert_makes("file 0 { 3 } swap 0 1 2;", [1, 0, 1, 3])
        self.assert_makes("file 0 { } swap 0 1 2;", [1, 0, 0])

    def test_a_swap_in_one_of_several_files(self):
        self.assert_makes("file 0 { 1 2 } file 1 { 1 2 } swap 1 1 2;", [2, 0, 2, 1, 2, 1, 2, 2, 1])

    def test_added(self):
        self.assert_makes("add 3;", [1, 3, 0])
        self.assert_makes("file 4 { 1 } add 3;", [2, 3, 0, 4, 1, 1])

    def test_removed(self):
        self.assert_makes("file 3 { } remove 3;", [0])
        self.assert_makes("file 3 { } file 4 { 1 } remove 3;", [1, 4, 1, 1])

    def test_moved(self):
        self.assert_makes("file 3 { 1 2 } move 3 0;", [1, 0, 2, 1, 2])
        self.assert_makes("file 3 { 1 2 } file 5 { } move 3 9;", [2, 5, 0, 9, 2, 1, 2])


class Rows(Case):
    def test_the_example_at_each_number(self):
        expected = [[1, 0, 3, 1, 2, 3], [1, 0, 4, 1, 7, 8, 3], [1, 0, 4, 3, 7, 8, 1], [1, 4, 4, 3, 7, 8, 1], [3, 0]]
        self.assertEqual(self.ask_of(EXAMPLE, tree(0), tree(1), tree(2), tree(3), GOES), expected)

    def test_a_file_added_filled_emptied_removed(self):
        text = "add 1; hunk 1 at 0 { } { 5 6 }; hunk 1 at 0 { 5 6 } { }; remove 1;"
        expected = [[0], [1, 1, 0], [1, 1, 2, 5, 6], [1, 1, 0], [0], [4, 0]]
        self.assertEqual(self.ask_of(text, tree(0), tree(1), tree(2), tree(3), tree(4), GOES), expected)

    def test_a_move_and_the_old_name_used_again(self):
        text = "file 1 { 7 } move 1 2; add 1; hunk 1 at 0 { } { 8 }; hunk 2 at 0 { 7 } { 9 };"
        expected = [[1, 2, 1, 7], [2, 1, 0, 2, 1, 7], [2, 1, 1, 8, 2, 1, 7], [2, 1, 1, 8, 2, 1, 9], [4, 0]]
        self.assertEqual(self.ask_of(text, tree(1), tree(2), tree(3), tree(4), GOES), expected)

    def test_two_files_change_names(self):
        text = "file 1 { 7 } file 2 { 8 } move 1 3; move 2 1; move 3 2;"
        self.assertEqual(self.ask_of(text, tree(3), GOES), [[2, 1, 1, 8, 2, 1, 7], [3, 0]])

    def test_a_file_grows_beyond_what_a_text_may_hold(self):
        tokens = " ".join(["1"] * 8)
        text = f"file 0 {{ {tokens} }}" + f"hunk 0 at 0 {{ }} {{ {tokens} }};" * 20
        self.assertEqual(self.ask_of(text, tree(20), GOES), [[1, 0, 168] + [1] * 168, [20, 0]])

    def test_no_steps(self):
        self.assertEqual(self.ask_of("file 0 { 1 }", tree(0), GOES), [[1, 0, 1, 1], [0, 0]])


class NotFitting(Case):
    def assert_reason(self, text, reason):
        """The text's one step doesn't fit, for this reason."""
        self.assertEqual(self.ask_of(text, GOES, tree(1)), [[0, reason], [-4]], text)

    def test_a_file_is_not_there(self):
        for step in ("hunk 3 at 0 { } { 1 };", "swap 3 1 2;", "remove 3;", "move 3 4;"):
            self.assert_reason(step, 1)
            self.assert_reason("file 2 { 1 2 }" + step, 1)

    def test_a_place_beyond_the_end(self):
        self.assert_reason("file 0 { 1 2 } hunk 0 at 3 { } { 1 };", 2)
        self.assert_reason("file 0 { 1 2 } hunk 0 at 1000 { } { 1 };", 2)
        self.assert_reason("file 0 { } hunk 0 at 1 { } { 1 };", 2)

    def test_other_tokens_stand_there(self):
        self.assert_reason("file 0 { 1 2 3 } hunk 0 at 1 { 3 } { };", 3)
        self.assert_reason("file 0 { 1 2 3 } hunk 0 at 0 { 1 2 4 } { };", 3)
        self.assert_reason("file 0 { 1 2 3 } hunk 0 at 0 { 2 1 } { };", 3)

    def test_old_tokens_reach_beyond_the_end(self):
        self.assert_reason("file 0 { 1 2 3 } hunk 0 at 2 { 3 4 } { };", 3)
        self.assert_reason("file 0 { 1 2 3 } hunk 0 at 3 { 3 } { };", 3)
        self.assert_reason("file 0 { } hunk 0 at 0 { 1 } { };", 3)

    def test_a_name_is_not_free(self):
        self.assert_reason("file 0 { } add 0;", 4)
        self.assert_reason("file 0 { 1 } add 0;", 4)
        self.assert_reason("file 0 { 1 } file 1 { } move 0 1;", 4)

    def test_a_removed_file_is_not_empty(self):
        self.assert_reason("file 0 { 1 } remove 0;", 5)

    def test_the_first_of_several_reasons(self):
        self.assert_reason("hunk 0 at 9 { 1 } { };", 1)
        self.assert_reason("file 0 { 1 } hunk 0 at 2 { 9 } { };", 2)
        self.assert_reason("file 1 { } move 0 1;", 1)

    def test_the_first_step_that_does_not_fit(self):
        text = "file 0 { 1 } add 1; add 1; remove 0; hunk 7 at 0 { 1 } { };"
        self.assertEqual(self.ask_of(text, GOES), [[1, 4]])

    def test_a_later_step_that_would_fit_is_not_counted(self):
        self.assertEqual(self.ask_of("file 0 { } remove 0; remove 0; add 0;", GOES), [[1, 1]])

    def test_the_last_step(self):
        self.assertEqual(self.ask_of("add 1;" + "move 1 2; move 2 1;" * 9 + "remove 2;", GOES), [[19, 1]])

    def test_a_moved_file_is_gone_from_its_old_name(self):
        self.assertEqual(self.ask_of("file 1 { 7 } move 1 2; swap 1 7 8;", GOES), [[1, 1]])

    def test_a_removed_file_is_gone(self):
        self.assertEqual(self.ask_of("file 1 { } remove 1; hunk 1 at 0 { } { 1 };", GOES), [[1, 1]])


class Numbers(Case):
    def test_outside_of_0_to_the_number_of_steps(self):
        for n in (-1, 4, 5, FAR, -FAR):
            self.assertEqual(self.ask_of(EXAMPLE, tree(n)), [[-3]])
        for n in (-1, 1, FAR, -FAR):
            self.assertEqual(self.ask_of("", tree(n)), [[-3]])

    def test_at_0_and_at_the_number_of_steps(self):
        self.assertEqual(self.ask_of(EXAMPLE, tree(0), tree(3)), [[1, 0, 3, 1, 2, 3], [1, 4, 4, 3, 7, 8, 1]])
        self.assertEqual(self.ask_of("", tree(0)), [[0]])

    def test_behind_a_step_that_does_not_fit(self):
        text = "file 0 { 1 } add 1; add 1; add 2;"
        self.assertEqual(self.ask_of(text, tree(0), tree(1)), [[1, 0, 1, 1], [2, 0, 1, 1, 1, 0]])
        self.assertEqual(self.ask_of(text, tree(2), tree(3)), [[-4], [-4]])

    def test_outside_comes_ahead_of_not_fitting(self):
        for n in (-1, 2, FAR, -FAR):
            self.assertEqual(self.ask_of("remove 0;", tree(n)), [[-3]])
