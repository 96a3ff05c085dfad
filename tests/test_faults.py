"""load: the faults of a text, each at its place."""

from tests.helper import Case, load

EIGHT = "1 2 3 4 5 6 7 8 "
FORTY = EIGHT * 5
TWENTY_STEPS = "add 1;" * 20


class NoWord(Case):
    def test_a_byte_that_stands_for_nothing(self):
        known = set(b"abcdefghijklmnopqrstuvwxyz0123456789{}; \n")
        for byte in range(256):
            if byte not in known:
                self.assert_fault(list(b"add 1; ") + [byte], 1, 7)

    def test_the_neighbours_of_what_stands_for_something(self):
        for sign in "`|~/:<@AZ\t\r":
            self.assert_fault("add 1; " + sign + "add 2;", 1, 7)

    def test_within_a_word_and_a_number(self):
        self.assert_fault("adD 1;", 1, 2)
        self.assert_fault("add 1.5;", 1, 5)
        self.assert_fault("add -1;", 1, 4)

    def test_a_word_of_seven_letters(self):
        self.assert_fault_at("add 1; |removes 1;", 1)
        self.assert_fault_at("add 1; |abcdefghijklmnopqrstuvwxyz", 1)

    def test_a_word_of_six_letters_is_none(self):
        self.assert_fault_at("add 1; |remova 1;", 2)
        self.assertEqual(self.ask(load("remove 1;")), [[0, 0, 1]])

    def test_a_number_of_five_digits(self):
        self.assert_fault_at("file 0 { 1 |10000 }", 1)
        self.assert_fault_at("file 0 { 1 |123456789 }", 1)

    def test_a_number_of_four_digits_is_none(self):
        self.assert_fault_at("file 0 { 1 |9999 }", 3)

    def test_a_number_with_0_in_front(self):
        for number in ("00", "01", "007", "0100", "00000"):
            self.assert_fault_at("file 0 { 1 |" + number + " }", 1)

    def test_0_alone_is_none(self):
        self.assertEqual(self.ask(load("file 0 { 0 } hunk 0 at 0 {0}{0};")), [[0, 1, 1]])

    def test_of_several_the_first(self):
        self.assert_fault_at("|01 abcdefg 12345 ?", 1)
        self.assert_fault_at("|abcdefg 12345 ? 01", 1)
        self.assert_fault_at("|12345 ? 01 abcdefg", 1)
        self.assert_fault_at("|? 01 abcdefg 12345", 1)

    def test_ahead_of_every_other_fault(self):
        others = (
            "add;",
            "add 10;",
            "file 0 { " + FORTY + "1 }",
            "file 0 { } file 0 { }",
            "move 1 1;",
        )
        for other in others:
            self.assert_fault_at("|abcdefg " + other, 1)
            self.assert_fault_at(other + " |abcdefg", 1)
            self.assert_fault_at(other + " |01", 1)
            self.assert_fault_at(other + "|?", 1)


class OutOfOrder(Case):
    def test_each_place_of_a_file(self):
        for marked in ("file |x", "file |{ }", "file |file", "file 0 |1", "file 0 |}", "file 0 |at", "file 0 { |{",
                       "file 0 { 1 |; }", "file 0 { 1 |file", "file 0 { } |}", "file 0 { } |1", "file 0 { }|; add 1;"):
            self.assert_fault_at(marked, 2)

    def test_each_place_of_a_hunk(self):
        for marked in ("hunk |at", "hunk 0 |1", "hunk 0 |{", "hunk 0 |add", "hunk 0 at |{", "hunk 0 at |at",
                       "hunk 0 at 1 |2", "hunk 0 at 1 |;", "hunk 0 at 1 { 2 |;", "hunk 0 at 1 { 2 } |;",
                       "hunk 0 at 1 { 2 } |3", "hunk 0 at 1 { 2 } { 3 |{", "hunk 0 at 1 { 2 } { 3 } |{",
                       "hunk 0 at 1 { 2 } { 3 } |add 1;"):
            self.assert_fault_at(marked, 2)

    def test_each_place_of_the_other_steps(self):
        for marked in ("swap |;", "swap 0 |;", "swap 0 1 |;", "swap 0 1 2 |3", "swap 0 |{ 1 2 };", "add |;", "add |add",
                       "add 1 |2;", "remove |{", "remove 1 |add 1;", "move |;", "move 1 |;", "move 1 |to 2;",
                       "move 1 2 |3;"):
            self.assert_fault_at(marked, 2)

    def test_what_no_text_begins_with(self):
        for marked in ("|1", "|{", "|}", "|;", "|at", "|x", "|added 1;", "|hunks"):
            self.assert_fault_at(marked, 2)

    def test_between_and_behind_steps(self):
        for marked in ("add 1;|;", "add 1; |file 0 { }", "add 1; |1", "add 1; |at", "add 1; |}", "add 1; |steps 1;"):
            self.assert_fault_at(marked, 2)

    def test_at_the_end(self):
        text = "file 0 { 1 } hunk 0 at 1 { 2 } { 3 }; swap 0 1 2; add 1; remove 1; move 1 2;"
        words = text.replace(";", " ;").split(" ")
        complete = {4 + 1, len(words)} | {place + 1 for place in range(len(words)) if words[place] == ";"}
        for length in range(1, len(words)):
            begun = " ".join(words[:length])
            if length in complete:
                self.assertEqual(self.ask(load(begun))[0][0], 0)
            else:
                self.assert_fault(begun, 2, len(begun))

    def test_the_end_is_behind_the_last_blank(self):
        self.assert_fault("add 1 \n ", 2, 8)
        self.assert_fault("file", 2, 4)


class TooHigh(Case):
    def test_a_name_above_9(self):
        for marked in ("file |10 { }", "hunk |10 at 0 { } { 1 };", "swap |10 1 2;", "add |10;", "remove |9999;",
                       "move |10 1;", "move 1 |10;", "move |10 10;"):
            self.assert_fault_at(marked, 3)

    def test_a_token_above_99(self):
        for marked in ("file 0 { 99 |100 }", "hunk 0 at 0 { |100 } { };", "hunk 0 at 0 { 1 } { 2 |100 };",
                       "swap 0 |100 1;", "swap 0 1 |100;", "swap 0 |100 100;"):
            self.assert_fault_at(marked, 3)

    def test_a_place_above_1000(self):
        self.assert_fault_at("hunk 0 at |1001 { } { 1 };", 3)
        self.assert_fault_at("hunk 0 at |9999 { } { 1 };", 3)

    def test_none_at_the_highest(self):
        text = "file 9 { 99 } hunk 9 at 1000 { 99 } { 99 }; swap 9 99 98; swap 9 98 99; add 9; remove 9; move 9 8;"
        self.assertEqual(self.ask(load(text + "move 8 9;")), [[0, 1, 7]])

    def test_the_name_counts_where_reading_comes_to_it(self):
        self.assert_fault_at("add |10", 3)
        self.assert_fault_at("file |10 x", 3)


class TooMany(Case):
    def test_a_file_of_40_tokens_and_of_41(self):
        self.assertEqual(self.ask(load("file 0 { " + FORTY + "}")), [[0, 1, 0]])
        self.assert_fault_at("file 0 { " + FORTY + "|1 }", 4)
        self.assert_fault_at("file 0 { " + FORTY + "|1 2 x", 4)
        self.assert_fault_at("file 1 { " + FORTY + "} file 0 { " + FORTY + "|9", 4)

    def test_old_tokens_of_a_hunk(self):
        self.assertEqual(self.ask(load("hunk 0 at 0 { " + EIGHT + "} { };")), [[0, 0, 1]])
        self.assert_fault_at("hunk 0 at 0 { " + EIGHT + "|9 } { };", 4)

    def test_new_tokens_of_a_hunk(self):
        self.assertEqual(self.ask(load("hunk 0 at 0 { } { " + EIGHT + "};")), [[0, 0, 1]])
        self.assert_fault_at("hunk 0 at 0 { } { " + EIGHT + "|9 };", 4)
        self.assertEqual(self.ask(load("hunk 0 at 0 { " + EIGHT + "} { " + EIGHT + "};")), [[0, 0, 1]])

    def test_a_step_behind_20(self):
        self.assertEqual(self.ask(load(TWENTY_STEPS)), [[0, 0, 20]])
        for step in ("hunk 0 at 0 { } { 1 };", "swap 0 1 2;", "add 1;", "remove 1;", "move 1 2;"):
            self.assert_fault_at(TWENTY_STEPS + " |" + step, 4)

    def test_its_word_alone_is_enough(self):
        self.assert_fault_at(TWENTY_STEPS + "|add", 4)
        self.assert_fault_at(TWENTY_STEPS + "|move 1 1;", 4)
        self.assert_fault_at(TWENTY_STEPS + "|swap 10", 4)

    def test_another_word_is_no_step_s_word(self):
        self.assert_fault_at(TWENTY_STEPS + "|file 0 { }", 2)
        self.assert_fault_at(TWENTY_STEPS + "|at", 2)
        self.assert_fault_at(TWENTY_STEPS + "|;", 2)


class NameTwice(Case):
    def test_a_file_that_is_there_already(self):
        self.assert_fault_at("file 3 { 1 } file |3 { 2 }", 5)
        self.assert_fault_at("file 3 { } file 4 { } file |3 { }", 5)
        self.assert_fault_at("file 0 { } file |0", 5)
        self.assert_fault_at("file 0 { } file |0 x", 5)

    def test_steps_may_tell_a_name_again(self):
        self.assertEqual(self.ask(load("file 3 { } add 3; add 3; move 3 4; move 4 3;")), [[0, 1, 4]])


class IdleStep(Case):
    def test_a_hunk_without_any_tokens(self):
        self.assert_fault_at("add 1; |hunk 0 at 0 { } { };", 6)
        self.assertEqual(self.ask(load("hunk 0 at 0 { 1 } { }; hunk 0 at 0 { } { 1 };")), [[0, 0, 2]])

    def test_a_swap_of_a_token_with_itself(self):
        self.assert_fault_at("add 1; |swap 0 7 7;", 6)
        self.assert_fault_at("|swap 0 0 0;", 6)
        self.assertEqual(self.ask(load("swap 7 7 0; swap 7 0 7;")), [[0, 0, 2]])

    def test_a_move_to_the_same_name(self):
        self.assert_fault_at("add 1; |move 3 3;", 6)
        self.assert_fault_at("|move 0 0;", 6)

    def test_a_hunk_with_the_same_tokens_is_a_step(self):
        self.assertEqual(self.ask(load("hunk 0 at 0 { 1 } { 1 };")), [[0, 0, 1]])

    def test_it_counts_ahead_of_the_semicolon(self):
        for step in ("|hunk 0 at 0 { } { }", "|swap 0 7 7", "|move 3 3"):
            self.assert_fault_at(step, 6)
            self.assert_fault_at(step + " add", 6)
            self.assert_fault_at(step + " 5;", 6)
            self.assert_fault_at(step + "}", 6)

    def test_it_counts_behind_all_of_the_step(self):
        self.assert_fault_at("hunk 0 at 0 { } { |", 2)
        self.assert_fault_at("hunk 0 at 0 { } { |x", 2)
        self.assert_fault_at("hunk 0 at 0 { } |;", 2)
        self.assert_fault_at("swap 0 |100 100;", 3)
        self.assert_fault_at("swap 0 7 |;", 2)
        self.assert_fault_at("move 3 |;", 2)


class TwoFaults(Case):
    # Of two of these one behind the other the first one counts, whichever it is.
    PARTS = (
        ("add |x;", 2),
        ("add |10;", 3),
        ("hunk 0 at 0 { } { " + EIGHT + "|9 };", 4),
        ("|swap 0 7 7;", 6),
    )

    def test_both_orders(self):
        for first, kind in self.PARTS:
            for second, other_kind in self.PARTS:
                self.assert_fault_at("add 1; " + first + second.replace("|", ""), kind)

    def test_a_file_told_twice_and_others(self):
        for step, kind in self.PARTS:
            self.assert_fault_at("file 0 { } file |0 { } " + step.replace("|", ""), 5)
        self.assert_fault_at("file 0 { |100 } file 0 { }", 3)
        self.assert_fault_at("file 0 { |x } file 0 { }", 2)
        self.assert_fault_at("file 0 { } file |0 { 100 }", 5)
        self.assert_fault_at("file 0 { } file |0 { x }", 5)
        self.assert_fault_at("file 0 { " + FORTY + "|1 } file 0 { }", 4)
        self.assert_fault_at("file 0 { } file |0 { " + FORTY + "1 }", 5)

    def test_two_at_one_place_where_the_lesser_one_counts(self):
        self.assert_fault_at("file 0 { " + FORTY + "|100 }", 3)
        self.assert_fault_at("hunk 0 at 0 { " + EIGHT + "|100 } { };", 3)
        self.assert_fault_at("hunk 0 at 0 { } { " + EIGHT + "|100 };", 3)
        self.assert_fault_at("file 0 { " + FORTY + "|x }", 2)
        self.assert_fault_at("hunk 0 at 0 { " + EIGHT + "|; } { };", 2)
        self.assert_fault_at("file 0 { " + FORTY + "|10000 }", 1)
        self.assert_fault_at(TWENTY_STEPS + "|hunk 0 at 0 { } { };", 4)
