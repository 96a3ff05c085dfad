"""The list of calls, and the list that is given back."""

from patchtexts.texts import answers
from tests.helper import (
    EXAMPLE, GOES, SHOWN, STEPS, TOLD, TURNED, Case, difference, file, load, taken_apart, tree, tree_numbers, tree_text,
    why,
)

# The calls 1 to 9, as they are answered behind the example and as they are refused.
ALL_BUT_LOAD = (
    SHOWN, TOLD, tree(0), tree(3), tree(4), GOES, why(0, [3, 0]), why(3, [4, 0, 1]), why(0, []), TURNED, file(3, 4),
    file(0, 4), file(0, 10), difference([1, 0, 3, 1, 9, 3]), difference([0]), difference([]), STEPS,
)
EXAMPLE_FORM = "file 0 { 1 2 3 }\nhunk 0 at 1 { 2 } { 7 8 };\nswap 0 1 3;\nmove 0 4;\n"


class Example(Case):
    def test_answers_as_they_lie_in_the_list(self):
        calls = load(EXAMPLE) + SHOWN + TOLD + tree(0) + tree(1) + tree(2) + tree(3) + GOES
        form = list(EXAMPLE_FORM.encode("ascii"))
        expected = [3, 0, 1, 3]
        expected += [len(form) + 1, len(form)] + form
        expected += [22, 1, 0, 3, 1, 2, 3, 3, 0, 0, 1, 1, 2, 2, 7, 8, 1, 0, 1, 3, 4, 0, 4]
        expected += [6, 1, 0, 3, 1, 2, 3]
        expected += [7, 1, 0, 4, 1, 7, 8, 3]
        expected += [7, 1, 0, 4, 3, 7, 8, 1]
        expected += [7, 1, 4, 4, 3, 7, 8, 1]
        expected += [2, 3, 0]
        self.assertEqual(answers(calls), expected)

    def test_the_rest_as_it_lies_in_the_list(self):
        calls = load(EXAMPLE) + TURNED + why(0, [3, 0]) + why(3, [4, 0, 1]) + file(3, 4)
        calls += difference([1, 0, 3, 1, 9, 3]) + STEPS
        self.assertEqual(calls[-23:], [5, 0, 2, 3, 0, 5, 3, 3, 4, 0, 1, 7, 3, 4, 8, 6, 1, 0, 3, 1, 9, 3, 9])
        form = list(b"move 4 0;\nswap 0 1 3;\nhunk 0 at 1 { 7 8 } { 2 };\n")
        expected = [3, 0, 1, 3]
        expected += [len(form) + 1, len(form)] + form
        expected += [1, 5]
        expected += [1, 1]
        expected += [6, 1, 4, 3, 7, 8, 1]
        expected += [9, 2, 1, 0, 0, 1, 1, 2, 1, 9]
        expected += [16, 3, 4, 4, 0, 1, 0, 1, 3, 0, 0, 1, 2, 7, 8, 1, 2]
        self.assertEqual(answers(calls), expected)

    def test_refusals_as_they_lie_in_the_list(self):
        calls = load(EXAMPLE) + why(4, []) + why(0, []) + file(-1, 0) + file(0, -1) + difference([]) + difference([1])
        self.assertEqual(answers(calls), [3, 0, 1, 3, 1, -3, 1, -5, 1, -3, 1, -2, 1, -5, 1, -5])

    def test_a_refusal_lies_in_the_list_as_its_number_alone(self):
        self.assertEqual(answers(GOES + load("") + tree(1) + tree(0)), [1, -8, 3, 0, 0, 0, 1, -3, 1, 0])


class Lists(Case):
    def test_what_was_handed_in_stays_as_it_was(self):
        calls = [number for call in ALL_BUT_LOAD for number in call]
        calls = calls + load(EXAMPLE) + calls + load("x") + load(" " * 1501) + calls
        before = list(calls)
        answers(calls)
        self.assertEqual(calls, before)

    def test_what_is_handed_in_may_be_locked(self):
        """Nothing is changed for a while either: each change of the list would be seen."""
        class Locked(list):
            def changed(self, *given, **named):
                raise AssertionError("the list was changed")
            append = extend = insert = pop = remove = clear = sort = reverse = changed
            __setitem__ = __delitem__ = __iadd__ = __imul__ = changed
        calls = load(EXAMPLE) + [number for call in ALL_BUT_LOAD for number in call]
        self.assertEqual(answers(Locked(calls)), answers(calls))

    def test_nothing_is_kept_from_one_list_to_the_next(self):
        self.assertEqual(answers(load(EXAMPLE)), [3, 0, 1, 3])
        self.assertEqual(answers(GOES + SHOWN), [1, -8, 1, -8])
        self.assertEqual(answers(load(EXAMPLE) + TOLD), answers(load(EXAMPLE) + TOLD))

    def test_what_was_given_back_can_be_changed_without_harm(self):
        calls = load(EXAMPLE) + TOLD
        found = answers(calls)
        expected = list(found)
        found.clear()
        self.assertEqual(answers(calls), expected)

    def test_a_later_load_takes_the_place_of_the_text(self):
        each = self.ask(load("file 1 { 5 }"), TOLD, load("add 2;"), TOLD, GOES, load(""), TOLD)
        self.assertEqual(each, [[0, 1, 0], [1, 1, 1, 5, 0], [0, 0, 1], [0, 1, 2, 2], [1, 0], [0, 0, 0], [0, 0]])

    def test_the_text_stays_as_it_is_whatever_is_asked_of_it(self):
        each = self.ask(load(EXAMPLE), tree(0), tree(3), GOES, tree(3), GOES, tree(0))
        self.assertEqual(each[1], each[6])
        self.assertEqual(each[2], each[4])
        self.assertEqual(each[3], each[5])

    def test_sixty_calls(self):
        calls = []
        expected = []
        for n in range(20):
            calls += [load(f"file 0 {{ {n} }} swap 0 {n} 50;"), tree(1), tree(2)]
            expected += [[0, 1, 1], [1, 0, 1, 50], [-3]]
        self.assertEqual(self.ask(*calls), expected)

    def test_sixty_calls_that_fill_a_list(self):
        # Each load is as long as one may be handed in: 10 of them come near to 17000 numbers.
        calls = [load(" " * 1500 + "x" * (n % 2) * 100) for n in range(10)] + [GOES] * 50
        expected = [[0, 0, 0], [-1]] * 5 + [[0, 0]] * 50
        self.assertEqual(self.ask(*calls), expected)

    def test_each_call_behind_each_other_one_answers_as_alone(self):
        alone = {tuple(call): self.ask_of(EXAMPLE, call)[0] for call in ALL_BUT_LOAD}
        for first in ALL_BUT_LOAD:
            for second in ALL_BUT_LOAD:
                each = self.ask_of(EXAMPLE, first, second, first)
                self.assertEqual(each, [alone[tuple(first)], alone[tuple(second)], alone[tuple(first)]])

    def test_sixty_calls_with_large_differences(self):
        files = {name: [(name + n * n) % 7 for n in range(40)] for name in range(10)}
        others = [{name: [(name * n + n // 3 + at) % 9 for n in range(40)] for name in range(10)} for at in range(36)]
        calls = [load(tree_text(files))] + [difference(tree_numbers(other)) for other in others] + [STEPS, GOES] * 11
        calls += [difference([0])]
        self.assertEqual(len(calls), 60)
        self.assertLessEqual(sum(len(call) for call in calls), 17000)
        each = self.ask(*calls)
        self.assertEqual(each[:37], [self.ask(load(tree_text(files)), call)[-1] for call in calls[:37]])
        self.assertEqual(each[37:59], [[0], [0, 0]] * 11)
        self.assertEqual(each[59][:2], [400, 60])
        self.assertTrue(all(len(answer) <= 2500 for answer in each))

    def test_a_list_of_all_calls_is_given_back_in_their_order(self):
        calls = load(EXAMPLE) + [number for call in ALL_BUT_LOAD for number in call]
        each = taken_apart(answers(calls))
        self.assertEqual([answer[0] for answer in each],
                         [0, 66, 1, 1, 1, -3, 3, 5, 1, -5, 49, 1, 0, -2, 2, 3, -5, 3])

    def test_a_single_call(self):
        self.assertEqual(answers(load("")), [3, 0, 0, 0])
        self.assertEqual(answers(SHOWN), [1, -8])


class NoTextYet(Case):
    FAR_OUT = (
        tree(-1), tree(10 ** 18), why(-1, [3] * 30), why(-10 ** 18, []), file(-1, 10), file(10 ** 18, -10 ** 18),
        difference([7]), difference([10 ** 18] * 500),
    )
    REFUSED = ALL_BUT_LOAD + FAR_OUT

    def test_all_but_load_are_refused(self):
        for call in self.REFUSED:
            self.assertEqual(self.ask(call), [[-8]])

    def test_they_are_read_one_behind_the_other(self):
        calls = self.REFUSED + self.REFUSED[::-1]
        self.assertEqual(self.ask(*calls), [[-8]] * len(calls))

    def test_a_load_with_a_fault_gives_no_text(self):
        for call in self.REFUSED:
            self.assertEqual(self.ask(load("file"), call), [[1, 2, 4], [-8]])

    def test_a_refused_load_gives_no_text(self):
        for call in self.REFUSED:
            self.assertEqual(self.ask(load(" " * 1501), call), [[-1], [-8]])

    def test_an_empty_text_is_a_text(self):
        self.assertEqual(self.ask(GOES, load(""), GOES), [[-8], [0, 0, 0], [0, 0]])


class TextStays(Case):
    def test_behind_a_load_with_a_fault(self):
        for call in ALL_BUT_LOAD:
            expected = self.ask_of(EXAMPLE, call)
            self.assertNotEqual(expected, [[-8]])
            self.assertEqual(self.ask_of(EXAMPLE, load("add 1; add 10;"), call)[1:], expected)

    def test_behind_a_refused_load(self):
        for call in ALL_BUT_LOAD:
            expected = self.ask_of(EXAMPLE, call)
            self.assertEqual(self.ask_of(EXAMPLE, load("add 1;" + " " * 1500), call)[1:], expected)

    def test_a_text_can_be_loaded_behind_them(self):
        for ahead in (load("add"), load(" " * 1501)):
            each = self.ask(ahead, load("add 1;"), STEPS, ahead, load("add 2;"), STEPS)
            self.assertEqual(each[1:3] + each[4:], [[0, 0, 1], [1, 3, 1], [0, 0, 1], [1, 3, 2]])

    def test_no_call_changes_it(self):
        for call in ALL_BUT_LOAD:
            each = self.ask_of(EXAMPLE, *ALL_BUT_LOAD, call, *ALL_BUT_LOAD)
            self.assertEqual(each[:len(ALL_BUT_LOAD)], each[len(ALL_BUT_LOAD) + 1:])

    def test_a_later_text_is_the_one_that_is_meant(self):
        for call in ALL_BUT_LOAD:
            expected = self.ask_of("file 4 { 1 }", call)
            self.assertEqual(self.ask_of(EXAMPLE, call, load("file 4 { 1 }"), call)[2:], expected)
