"""The list of calls, and the list that is given back."""

from patchtexts.texts import answers
from tests.helper import EXAMPLE, GOES, SHOWN, STEPS, TOLD, TURNED, Case, difference, file, load, tree, why

EXAMPLE_FORM = "file 0 { 1 2 3 }\nhunk 0 at 1 { 2 } { 7 8 };\nswap 0 1 3;\nmove 0 4;\n"


class Example(Case):
    def test_answers_as_they_lie_in_the_list(self):
        calls = load(EXAMPLE) + SHOWN + TOLD + tree(0) + tree(1) + tree(2) + tree(3) + GOES
        form = list(EXAMPLE_FORM.encode("ascii"))
        expected = [3, 0, 1, 3]
        expected += [len(form) + 1, len(form)] + form
        expected += [22, 1, 0, 3, 1, 2, 3, 3, 0, 0, 1, 1, 2, 2, 7, 8, 1, 0, 1, 3, 4, 0, 4]
        expected += [6, 1, 0, 3, 1, 2, 3]
        expected += [7, 1, 0, 4, 1, 7, 8, 3]
        expected += [7, 1, 0, 4, 3, 7, 8, 1]
        expected += [7, 1, 4, 4, 3, 7, 8, 1]
        expected += [2, 3, 0]
        self.assertEqual(answers(calls), expected)

    def test_a_refusal_lies_in_the_list_as_its_number_alone(self):
        self.assertEqual(answers(GOES + load("") + tree(1) + tree(0)), [1, -8, 3, 0, 0, 0, 1, -3, 1, 0])


class Lists(Case):
    def test_what_was_handed_in_stays_as_it_was(self):
        calls = load(EXAMPLE) + SHOWN + TOLD + tree(3) + GOES + load("x") + load(" " * 1501)
        before = list(calls)
        answers(calls)
        self.assertEqual(calls, before)

    def test_nothing_is_kept_from_one_list_to_the_next(self):
        self.assertEqual(answers(load(EXAMPLE)), [3, 0, 1, 3])
        self.assertEqual(answers(GOES + SHOWN), [1, -8, 1, -8])
        self.assertEqual(answers(load(EXAMPLE) + TOLD), answers(load(EXAMPLE) + TOLD))

    def test_what_was_given_back_can_be_changed_without_harm(self):
        calls = load(EXAMPLE) + TOLD
        found = answers(calls)
        expected = list(found)
        found.clear()
        self.assertEqual(answers(calls), expected)

    def test_a_later_load_takes_the_place_of_the_text(self):
        each = self.ask(load("file 1 { 5 }"), TOLD, load("add 2;"), TOLD, GOES, load(""), TOLD)
        self.assertEqual(each, [[0, 1, 0], [1, 1, 1, 5, 0], [0, 0, 1], [0, 1, 2, 2], [1, 0], [0, 0, 0], [0, 0]])

    def test_the_text_stays_as_it_is_whatever_is_asked_of_it(self):
        each = self.ask(load(EXAMPLE), tree(0), tree(3), GOES, tree(3), GOES, tree(0))
        self.assertEqual(each[1], each[6])
        self.assertEqual(each[2], each[4])
        self.assertEqual(each[3], each[5])

    def test_sixty_calls(self):
        calls = []
        expected = []
        for n in range(20):
            calls += [load(f"file 0 {{ {n} }} swap 0 {n} 50;"), tree(1), tree(2)]
            expected += [[0, 1, 1], [1, 0, 1, 50], [-3]]
        self.assertEqual(self.ask(*calls), expected)

    def test_sixty_calls_that_fill_a_list(self):
        # Each load is as long as one may be handed in: 10 of them come near to 17000 numbers.
        calls = [load(" " * 1500 + "x" * (n % 2) * 100) for n in range(10)] + [GOES] * 50
        expected = [[0, 0, 0], [-1]] * 5 + [[0, 0]] * 50
        self.assertEqual(self.ask(*calls), expected)

    def test_a_single_call(self):
        self.assertEqual(answers(load("")), [3, 0, 0, 0])
        self.assertEqual(answers(SHOWN), [1, -8])


class NoTextYet(Case):
    ASKED = (SHOWN, TOLD, tree(0), tree(1), tree(-1), tree(10 ** 18), GOES)
    OTHERS = (why(0, []), why(-1, [3] * 30), TURNED, file(0, 0), file(-1, 10), difference([]), difference([7]), STEPS)

    def test_all_but_load_are_refused(self):
        for call in self.ASKED + self.OTHERS:
            self.assertEqual(self.ask(call), [[-8]])

    def test_they_are_read_one_behind_the_other(self):
        calls = self.OTHERS + self.ASKED + self.OTHERS
        self.assertEqual(self.ask(*calls), [[-8]] * len(calls))

    def test_a_load_with_a_fault_gives_no_text(self):
        for call in self.ASKED:
            self.assertEqual(self.ask(load("file"), call), [[1, 2, 4], [-8]])

    def test_a_refused_load_gives_no_text(self):
        for call in self.ASKED:
            self.assertEqual(self.ask(load(" " * 1501), call), [[-1], [-8]])

    def test_an_empty_text_is_a_text(self):
        self.assertEqual(self.ask(GOES, load(""), GOES), [[-8], [0, 0, 0], [0, 0]])
