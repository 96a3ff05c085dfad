"""why: whether a step that is handed over fits, and why it doesn't."""

from tests.helper import EXAMPLE, FAR, GOES, SHOWN, STEPS, TOLD, Case, load, tree, why

HUNK = [0, 0, 1, 2, 2, 3, 1, 7]
SWAP = [1, 0, 1, 2]
ADDED = [2, 5]
REMOVED = [3, 5]
MOVED = [4, 0, 5]
WHOLE = (HUNK, SWAP, ADDED, REMOVED, MOVED)


def hunk(name, place, old, new):
    return [0, name, place, len(old)] + old + [len(new)] + new


class Reasons(Case):
    TREE = "file 0 { 1 2 3 } file 1 { } file 2 { 4 }"

    def assert_why(self, step, reason):
        self.assertEqual(self.ask_of(self.TREE, why(0, step)), [[reason]], step)

    def test_a_hunk(self):
        for step in (hunk(0, 1, [2, 3], [7]), hunk(0, 0, [1, 2, 3], []), hunk(0, 3, [], [9]), hunk(0, 0, [], [9]),
                     hunk(1, 0, [], [0, 99]), hunk(0, 2, [3], [3])):
            self.assert_why(step, 0)
        for step in (hunk(3, 0, [], [9]), hunk(9, 1000, [1], [])):
            self.assert_why(step, 1)
        for step in (hunk(0, 4, [], [9]), hunk(0, 1000, [], [9]), hunk(1, 1, [], [9])):
            self.assert_why(step, 2)
        for step in (hunk(0, 1, [3], []), hunk(0, 0, [1, 2, 4], []), hunk(0, 2, [3, 1], []), hunk(0, 3, [1], []),
                     hunk(1, 0, [1], [])):
            self.assert_why(step, 3)

    def test_a_swap(self):
        for step in ([1, 0, 1, 2], [1, 0, 2, 1], [1, 0, 98, 99], [1, 1, 1, 2]):
            self.assert_why(step, 0)
        for name in (3, 9):
            self.assert_why([1, name, 1, 2], 1)

    def test_added(self):
        for name in (3, 9):
            self.assert_why([2, name], 0)
        for name in (0, 1, 2):
            self.assert_why([2, name], 4)

    def test_removed(self):
        self.assert_why([3, 1], 0)
        for name in (3, 9):
            self.assert_why([3, name], 1)
        for name in (0, 2):
            self.assert_why([3, name], 5)

    def test_moved(self):
        for step in ([4, 0, 3], [4, 1, 9], [4, 2, 4]):
            self.assert_why(step, 0)
        self.assert_why([4, 3, 4], 1)
        for step in ([4, 0, 1], [4, 1, 0], [4, 2, 0]):
            self.assert_why(step, 4)

    def test_the_first_of_several_reasons(self):
        self.assert_why(hunk(3, 9, [5], []), 1)
        self.assert_why(hunk(0, 4, [5], []), 2)
        self.assert_why(hunk(1, 1, [5], []), 2)
        self.assert_why([4, 3, 0], 1)


class Behind(Case):
    def test_the_example(self):
        self.assertEqual(self.ask_of(EXAMPLE, why(0, [3, 0]), why(3, [4, 0, 1])), [[5], [1]])

    def test_at_each_number_of_steps(self):
        asked = (hunk(0, 1, [2], []), hunk(0, 1, [7], []), hunk(0, 4, [], [1]), [1, 0, 1, 2], [2, 0], [2, 4], [3, 0],
                 [4, 0, 4], [4, 4, 0])
        reasons = (
            [0, 3, 2, 0, 4, 0, 5, 0, 1],
            [3, 0, 0, 0, 4, 0, 5, 0, 1],
            [3, 0, 0, 0, 4, 0, 5, 0, 1],
            [1, 1, 1, 1, 0, 4, 1, 1, 0],
        )
        for n in range(4):
            each = self.ask_of(EXAMPLE, *[why(n, step) for step in asked])
            self.assertEqual(each, [[reason] for reason in reasons[n]], n)

    def test_a_removed_file_behind_its_hunks(self):
        text = "file 0 { 1 } hunk 0 at 0 { 1 } { }; remove 0;"
        self.assertEqual(self.ask_of(text, *[why(n, [3, 0]) for n in range(3)]), [[5], [0], [1]])

    def test_a_text_without_steps(self):
        self.assertEqual(self.ask_of("", why(0, [2, 0]), why(0, [3, 0])), [[0], [1]])

    def test_a_step_of_the_text_that_does_not_fit_later(self):
        text = "file 0 { } add 1; add 1;"
        self.assertEqual(self.ask_of(text, why(0, [2, 1]), why(1, [2, 1])), [[0], [4]])

    def test_the_text_stays_as_it_is(self):
        around = (SHOWN, TOLD, tree(0), tree(3), GOES, STEPS)
        for step in (hunk(0, 1, [2], [9]), [1, 0, 1, 2], [2, 5], [3, 0], [4, 0, 5], []):
            for n in (0, 3):
                each = self.ask_of(EXAMPLE, *around, why(n, step), *around)
                self.assertEqual(each[:6], each[7:])

    def test_a_step_is_told_as_told_tells_it(self):
        text = "hunk 0 at 10 { 1 22 } { 3 };swap 3 6 7;add 8;remove 9;move 5 4;"
        row = self.ask_of(text, TOLD)[0][2:]
        for begin, end in ((0, 8), (8, 12), (12, 14), (14, 16), (16, 19)):
            self.assertNotEqual(self.ask_of("", why(0, row[begin:end])), [[-5]])


class NoStep(Case):
    TREE = "file 0 { 1 2 3 } file 5 { }"

    def assert_no_step(self, step):
        self.assertEqual(self.ask_of(self.TREE, why(0, step), why(0, [2, 7])), [[-5], [0]], step)

    def assert_step(self, step):
        self.assertNotEqual(self.ask_of(self.TREE, why(0, step)), [[-5]], step)

    def test_an_empty_list(self):
        self.assert_no_step([])

    def test_an_unknown_first_number(self):
        for first in (-1, 5, 6, 10, FAR, -FAR):
            for behind in ([], [0], [0, 1], [0, 1, 2], [0, 0, 0, 1, 1]):
                self.assert_no_step([first] + behind)

    def test_too_few_numbers(self):
        for step in WHOLE:
            self.assert_step(step)
            for length in range(len(step)):
                self.assert_no_step(step[:length])

    def test_numbers_too_many(self):
        for step in WHOLE:
            for behind in ([0], [1], [-1], [FAR], [2, 5], step):
                self.assert_no_step(step + behind)
        self.assert_no_step(hunk(0, 0, [1], []) + [0] * 24)

    def test_far_numbers_in_each_place(self):
        for step in WHOLE:
            for place in range(len(step)):
                for number in (FAR, -FAR, -1, 2 ** 64, -2 ** 32):
                    self.assert_no_step(step[:place] + [number] + step[place + 1:])

    def test_names(self):
        for name, asserted in ((-1, self.assert_no_step), (0, self.assert_step), (9, self.assert_step),
                               (10, self.assert_no_step)):
            asserted(hunk(name, 0, [1], [2]))
            asserted([1, name, 1, 2])
            asserted([2, name])
            asserted([3, name])
            asserted([4, name, 1])
            asserted([4, 1, name])

    def test_tokens(self):
        for token, asserted in ((-1, self.assert_no_step), (0, self.assert_step), (99, self.assert_step),
                                (100, self.assert_no_step)):
            asserted(hunk(0, 0, [token], []))
            asserted(hunk(0, 0, [1, token], [2]))
            asserted(hunk(0, 0, [], [token]))
            asserted(hunk(0, 0, [1], [2, token]))
            asserted([1, 0, token, 1])
            asserted([1, 0, 1, token])

    def test_places(self):
        for place in (-1, 1001, FAR, -FAR):
            self.assert_no_step(hunk(0, place, [], [1]))
        for place in (0, 1000):
            self.assert_step(hunk(0, place, [], [1]))

    def test_counts_within_the_limits(self):
        self.assert_step(hunk(0, 0, [1] * 8, []))
        self.assert_step(hunk(0, 0, [], [1] * 8))
        self.assert_step(hunk(0, 0, [1] * 8, [2] * 8))

    def test_counts_outside_of_the_limits(self):
        self.assert_no_step(hunk(0, 0, [1] * 9, []))
        self.assert_no_step(hunk(0, 0, [], [1] * 9))
        self.assert_no_step(hunk(0, 0, [1] * 8, [2] * 9))
        self.assert_no_step([0, 0, 0, -1, 0])
        self.assert_no_step([0, 0, 0, -1, 1, 1])
        self.assert_no_step([0, 0, 0, 1, 1, -1])
        self.assert_no_step([0, 0, 0, 1, 1, -1, 1])

    def test_counts_above_what_is_there(self):
        self.assert_no_step([0, 0, 0, 3, 1, 2, 0])
        self.assert_no_step([0, 0, 0, 2, 1, 2])
        self.assert_no_step([0, 0, 0, 2, 1])
        self.assert_no_step([0, 0, 0, 1, 1, 2, 1])
        self.assert_no_step([0, 0, 0, 0, 1])

    def test_a_hunk_without_any_tokens(self):
        self.assert_no_step(hunk(0, 0, [], []))
        self.assert_no_step(hunk(9, 1000, [], []))
        self.assert_step(hunk(0, 0, [1], []))
        self.assert_step(hunk(0, 0, [], [1]))

    def test_a_swap_of_a_token_with_itself(self):
        for token in (0, 1, 50, 99):
            self.assert_no_step([1, 0, token, token])

    def test_a_move_to_the_same_name(self):
        for name in range(10):
            self.assert_no_step([4, name, name])


class Order(Case):
    # The second step doesn't fit.
    TEXT = "file 0 { 1 } add 1; add 1; add 2;"

    def test_no_text_comes_first(self):
        for n in (-1, 0, 1, FAR):
            for step in ([], [2, 1], [7]):
                self.assertEqual(self.ask(why(n, step)), [[-8]])

    def test_then_a_number_outside(self):
        for n in (-1, 4, FAR, -FAR):
            for step in ([], [2, 1], [FAR]):
                self.assertEqual(self.ask_of(self.TEXT, why(n, step)), [[-3]])
        self.assertEqual(self.ask_of("", why(1, []), why(-1, [2, 1])), [[-3], [-3]])

    def test_then_a_step_that_does_not_fit(self):
        for n in (2, 3):
            for step in ([], [2, 5], [FAR]):
                self.assertEqual(self.ask_of(self.TEXT, why(n, step)), [[-4]])

    def test_then_what_is_no_step(self):
        for n in (0, 1):
            self.assertEqual(self.ask_of(self.TEXT, why(n, []), why(n, [3, 0]), why(n, [3, 10])), [[-5], [5], [-5]])

    def test_behind_a_load_that_gave_no_text(self):
        self.assertEqual(self.ask(load("?"), why(0, []), load(" " * 1501), why(0, [])), [[1, 1, 0], [-8], [-1], [-8]])

    def test_thirty_numbers(self):
        self.assertEqual(self.ask_of(self.TEXT, why(0, [0] * 30), why(0, [FAR] * 30), why(0, [2] * 30)), [[-5]] * 3)
