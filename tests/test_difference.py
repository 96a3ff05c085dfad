"""difference: the steps from the text's tree to another one."""

import functools
import itertools

from tests.helper import (
    EXAMPLE, FAR, GOES, SHOWN, STEPS, TOLD, Case, difference, load, made_of, steps_apart, tree, tree_numbers, tree_text,
)


def common(first, second):
    """How many tokens both rows have in common, in order, at most."""
    @functools.lru_cache(maxsize=None)
    def at_most(at_first, at_second):
        if at_first == len(first) or at_second == len(second):
            return 0
        if first[at_first] == second[at_second]:
            return 1 + at_most(at_first + 1, at_second + 1)
        return max(at_most(at_first + 1, at_second), at_most(at_first, at_second + 1))
    return at_most(0, 0)


def as_document_tells(first, second):
    """The runs of two rows: [place, taken, put] each, found word by word as the document tells it."""
    runs = [[0, [], []]]
    at = 0
    while first or second:
        if first and second and first[0] == second[0]:
            first, second = first[1:], second[1:]
            at += 1
            runs.append([at, [], []])
        elif first and (not second or common(first[1:], second) >= common(first, second[1:])):
            runs[-1][1].append(first[0])
            first = first[1:]
            at += 1
        else:
            runs[-1][2].append(second[0])
            second = second[1:]
    return [run for run in runs if run[1] or run[2]]


def hunk(name, place, old, new):
    return [0, name, place, len(old)] + list(old) + [len(new)] + list(new)


def rows_up_to(length, tokens):
    for count in range(length + 1):
        yield from itertools.product(range(tokens), repeat=count)


class DifferenceCase(Case):
    def assert_difference(self, first, second, touched, steps):
        """The difference of the trees, dicts of names and tokens, is this; and it leads from one to the other."""
        answer = self.ask_of(tree_text(first), difference(tree_numbers(second)))[0]
        self.assertEqual(steps_apart(answer[1:]), steps)
        self.assertEqual(answer[0], touched)
        self.assertEqual(made_of(first, steps), {name: list(second[name]) for name in second})

    def assert_hunks(self, first, second, touched, hunks):
        """The same of a file that is in both trees."""
        self.assert_difference({3: first}, {3: second}, touched, [hunk(3, *parts) for parts in hunks])


class Trees(DifferenceCase):
    def test_the_example(self):
        answer = self.ask_of(EXAMPLE, difference([1, 0, 3, 1, 9, 3]))
        self.assertEqual(answer, [[2, 1, 0, 0, 1, 1, 2, 1, 9]])

    def test_the_same_tree(self):
        for files in ({}, {0: []}, {9: [99]}, {0: [1, 2], 4: [], 9: [3, 3]}):
            self.assertEqual(self.ask_of(tree_text(files), difference(tree_numbers(files))), [[0, 0]])

    def test_two_empty_trees(self):
        self.assertEqual(self.ask_of("", difference([0])), [[0, 0]])

    def test_a_file_in_both(self):
        self.assert_difference({1: [5]}, {1: [6]}, 2, [hunk(1, 0, [5], [6])])
        self.assert_difference({1: []}, {1: [6]}, 1, [hunk(1, 0, [], [6])])
        self.assert_difference({1: [5]}, {1: []}, 1, [hunk(1, 0, [5], [])])

    def test_a_file_in_the_first_one_alone(self):
        self.assert_difference({1: [5, 6]}, {}, 2, [hunk(1, 0, [5, 6], []), [3, 1]])
        self.assert_difference({1: []}, {}, 0, [[3, 1]])

    def test_a_file_in_the_second_one_alone(self):
        self.assert_difference({}, {1: [5, 6]}, 2, [[2, 1], hunk(1, 0, [], [5, 6])])
        self.assert_difference({}, {1: []}, 0, [[2, 1]])

    def test_several_of_one_kind_by_rising_names(self):
        self.assert_difference({0: [1], 2: [], 9: [3]}, {}, 2,
                               [hunk(0, 0, [1], []), [3, 0], [3, 2], hunk(9, 0, [3], []), [3, 9]])
        self.assert_difference({}, {0: [1], 2: [], 9: [3]}, 2,
                               [[2, 0], hunk(0, 0, [], [1]), [2, 2], [2, 9], hunk(9, 0, [], [3])])
        self.assert_difference({0: [1], 2: [4], 9: [3]}, {0: [2], 2: [4], 9: []}, 3,
                               [hunk(0, 0, [1], [2]), hunk(9, 0, [3], [])])

    def test_several_of_each_kind_by_rising_names(self):
        first = {0: [1], 2: [2, 3], 3: [4], 5: [], 7: [5], 8: [6]}
        second = {1: [], 2: [2], 3: [4], 4: [7], 6: [8], 7: [9], 9: [1, 1]}
        steps = [hunk(0, 0, [1], []), [3, 0], [2, 1], hunk(2, 1, [3], []), [2, 4], hunk(4, 0, [], [7]), [3, 5], [2, 6],
                 hunk(6, 0, [], [8]), hunk(7, 0, [5], [9]), hunk(8, 0, [6], []), [3, 8], [2, 9], hunk(9, 0, [], [1, 1])]
        self.assert_difference(first, second, 9, steps)

    def test_a_moved_file_is_taken_and_put(self):
        self.assert_difference({1: [5]}, {2: [5]}, 2, [hunk(1, 0, [5], []), [3, 1], [2, 2], hunk(2, 0, [], [5])])

    def test_the_tree_is_the_text_s_and_not_the_one_behind_its_steps(self):
        text = "file 0 { 1 2 } hunk 0 at 0 { 1 } { 5 }; add 1; move 0 2;"
        each = self.ask_of(text, difference([1, 0, 2, 1, 2]), difference([2, 1, 0, 2, 2, 5, 2]))
        self.assertEqual(each[0], [0, 0])
        self.assertEqual(each[1], [4, 5] + hunk(0, 0, [1, 2], []) + [3, 0, 2, 1, 2, 2] + hunk(2, 0, [], [5, 2]))

    def test_steps_of_the_text_need_not_fit(self):
        self.assertEqual(self.ask_of("file 0 { } add 0; remove 5;", difference([0])), [[0, 1, 3, 0]])

    def test_files_of_the_text_in_any_order(self):
        each = self.ask_of("file 7 { 1 } file 2 { 2 } file 5 { }", difference([0]))
        self.assertEqual(steps_apart(each[0][1:]),
                         [hunk(2, 0, [2], []), [3, 2], [3, 5], hunk(7, 0, [1], []), [3, 7]])

    def test_the_steps_as_a_text_of_their_own(self):
        first = {0: [1, 2, 3, 4], 2: [7], 3: []}
        second = {0: [2, 9, 4, 5], 1: [8], 3: [6]}
        steps = steps_apart(self.ask_of(tree_text(first), difference(tree_numbers(second)))[0][1:])
        self.assertEqual(steps, [hunk(0, 4, [], [5]), hunk(0, 2, [3], [9]), hunk(0, 0, [1], []), [2, 1],
                                 hunk(1, 0, [], [8]), hunk(2, 0, [7], []), [3, 2], hunk(3, 0, [], [6])])
        text = tree_text(first) + ("hunk 0 at 4 {}{5}; hunk 0 at 2 {3}{9}; hunk 0 at 0 {1}{}; add 1; hunk 1 at 0 {}{8};"
                                   "hunk 2 at 0 {7}{}; remove 2; hunk 3 at 0 {}{6};")
        self.assertEqual(self.ask_of(text, GOES, tree(8)), [[8, 0], tree_numbers(second)])


class Runs(DifferenceCase):
    def test_one_at_the_beginning(self):
        self.assert_hunks([1, 2, 3], [9, 2, 3], 2, [(0, [1], [9])])
        self.assert_hunks([1, 2, 3], [2, 3], 1, [(0, [1], [])])
        self.assert_hunks([2, 3], [9, 2, 3], 1, [(0, [], [9])])

    def test_one_in_the_middle(self):
        self.assert_hunks([1, 2, 3], [1, 9, 3], 2, [(1, [2], [9])])
        self.assert_hunks([1, 2, 3], [1, 3], 1, [(1, [2], [])])
        self.assert_hunks([1, 3], [1, 9, 3], 1, [(1, [], [9])])

    def test_one_at_the_end(self):
        self.assert_hunks([1, 2, 3], [1, 2, 9], 2, [(2, [3], [9])])
        self.assert_hunks([1, 2, 3], [1, 2], 1, [(2, [3], [])])
        self.assert_hunks([1, 2], [1, 2, 9], 1, [(2, [], [9])])

    def test_one_of_the_whole_row(self):
        self.assert_hunks([1, 2, 3], [4, 5], 5, [(0, [1, 2, 3], [4, 5])])
        self.assert_hunks([1, 2], [3, 4, 5], 5, [(0, [1, 2], [3, 4, 5])])

    def test_several_the_last_one_first(self):
        self.assert_hunks([1, 2, 3, 4, 5], [9, 2, 4, 5, 8, 7], 5, [(5, [], [8, 7]), (2, [3], []), (0, [1], [9])])
        self.assert_hunks([1, 2, 3], [7, 1, 7, 2, 7, 3, 7], 4,
                          [(3, [], [7]), (2, [], [7]), (1, [], [7]), (0, [], [7])])
        self.assert_hunks([7, 1, 7, 2, 7], [1, 2], 3, [(4, [7], []), (2, [7], []), (0, [7], [])])

    def test_a_place_is_in_the_first_row(self):
        self.assert_hunks([1, 2, 3, 4], [9, 9, 9, 1, 3, 4, 8], 5, [(4, [], [8]), (1, [2], []), (0, [], [9, 9, 9])])

    def test_tokens_0_and_99(self):
        self.assert_hunks([0, 99], [99, 0], 2, [(2, [], [0]), (0, [0], [])])
        self.assert_hunks([0], [99], 2, [(0, [0], [99])])

    def test_where_both_ways_have_as_much_in_common_the_first_row_s_token_is_taken(self):
        self.assert_hunks([1, 2], [2, 1], 2, [(2, [], [1]), (0, [1], [])])
        self.assert_hunks([1, 2, 3], [3, 2, 1], 4, [(3, [], [2, 1]), (0, [1, 2], [])])
        self.assert_hunks([1, 2, 1, 2], [2, 1, 2, 1], 2, [(4, [], [1]), (0, [1], [])])

    def test_where_taking_has_more_in_common(self):
        self.assert_hunks([1, 2, 3], [2, 3, 1], 2, [(3, [], [1]), (0, [1], [])])

    def test_where_putting_has_more_in_common(self):
        self.assert_hunks([1, 2, 3], [3, 1, 2], 2, [(2, [3], []), (0, [], [3])])

    def test_what_is_taken_and_what_is_put_at_one_place_are_one_run(self):
        self.assert_hunks([5, 1, 1, 5], [9, 1, 1, 5], 2, [(0, [5], [9])])
        self.assert_hunks([4, 5, 1], [6, 4, 7, 1], 3, [(1, [5], [7]), (0, [], [6])])
        self.assert_hunks([1, 2, 3, 4, 9], [5, 6, 7, 9], 7, [(0, [1, 2, 3, 4], [5, 6, 7])])

    def test_a_token_common_at_once_though_a_later_one_is_like_it(self):
        self.assert_hunks([1, 1], [1], 1, [(1, [1], [])])
        self.assert_hunks([1], [1, 1], 1, [(1, [], [1])])
        self.assert_hunks([1, 2, 1, 3], [1, 3], 2, [(1, [2, 1], [])])

    def assert_as_document_tells(self, first, seconds):
        """The differences from the first row to each of the second ones are as the document tells them."""
        calls = [load(tree_text({0: first}))]
        expected = [[0, 1, 0]]
        for second in seconds:
            calls.append(difference(tree_numbers({0: second})))
            hunks = [hunk(0, *run) for run in reversed(as_document_tells(first, second))]
            touched = len(first) + len(second) - 2 * common(first, second)
            expected.append([touched, len(hunks)] + [number for each in hunks for number in each])
            self.assertEqual(made_of({0: first}, hunks), {0: list(second)})
        self.assertEqual(self.ask(*calls), expected)

    def test_every_pair_of_short_rows(self):
        rows = list(rows_up_to(4, 3))
        for first in rows:
            for begin in range(0, len(rows), 59):
                self.assert_as_document_tells(first, rows[begin:begin + 59])

    def test_every_pair_of_rows_of_two_tokens(self):
        seconds = list(itertools.product(range(2), repeat=5))
        for first in itertools.product(range(2), repeat=6):
            self.assert_as_document_tells(first, seconds)


class LongRuns(DifferenceCase):
    A = list(range(10, 50))
    B = list(range(50, 90))

    def test_8_and_9_taken(self):
        self.assert_hunks(self.A[:8], [], 8, [(0, self.A[:8], [])])
        self.assert_hunks(self.A[:9], [], 9, [(0, self.A[:8], []), (0, self.A[8:9], [])])

    def test_16_and_17_taken(self):
        self.assert_hunks(self.A[:16], [], 16, [(0, self.A[:8], []), (0, self.A[8:16], [])])
        self.assert_hunks(self.A[:17], [], 17,
                          [(0, self.A[:8], []), (0, self.A[8:16], []), (0, self.A[16:17], [])])

    def test_8_and_9_put(self):
        self.assert_hunks([], self.B[:8], 8, [(0, [], self.B[:8])])
        self.assert_hunks([], self.B[:9], 9, [(0, [], self.B[:8]), (8, [], self.B[8:9])])

    def test_16_and_17_put(self):
        self.assert_hunks([], self.B[:16], 16, [(0, [], self.B[:8]), (8, [], self.B[8:16])])
        self.assert_hunks([], self.B[:17], 17,
                          [(0, [], self.B[:8]), (8, [], self.B[8:16]), (16, [], self.B[16:17])])

    def test_as_many_taken_as_put(self):
        self.assert_hunks(self.A[:8], self.B[:8], 16, [(0, self.A[:8], self.B[:8])])
        self.assert_hunks(self.A[:17], self.B[:17], 34,
                          [(0, self.A[:8], self.B[:8]), (8, self.A[8:16], self.B[8:16]),
                           (16, self.A[16:17], self.B[16:17])])

    def test_more_taken_than_put(self):
        self.assert_hunks(self.A[:9], self.B[:8], 17, [(0, self.A[:8], self.B[:8]), (8, self.A[8:9], [])])
        self.assert_hunks(self.A[:17], self.B[:3], 20,
                          [(0, self.A[:8], self.B[:3]), (3, self.A[8:16], []), (3, self.A[16:17], [])])
        self.assert_hunks(self.A[:17], self.B[:9], 26,
                          [(0, self.A[:8], self.B[:8]), (8, self.A[8:16], self.B[8:9]), (9, self.A[16:17], [])])

    def test_more_put_than_taken(self):
        self.assert_hunks(self.A[:8], self.B[:9], 17, [(0, self.A[:8], self.B[:8]), (8, [], self.B[8:9])])
        self.assert_hunks(self.A[:3], self.B[:17], 20,
                          [(0, self.A[:3], self.B[:8]), (8, [], self.B[8:16]), (16, [], self.B[16:17])])
        self.assert_hunks(self.A[:9], self.B[:17], 26,
                          [(0, self.A[:8], self.B[:8]), (8, self.A[8:9], self.B[8:16]), (16, [], self.B[16:17])])

    def test_between_other_runs(self):
        first = [1] + self.A[:10] + [2, 3, 4]
        second = [9, 1] + self.B[:17] + [2, 4]
        self.assert_hunks(first, second, 29,
                          [(12, [3], []), (1, self.A[:8], self.B[:8]), (9, self.A[8:10], self.B[8:16]),
                           (17, [], self.B[16:17]), (0, [], [9])])

    def test_in_a_file_of_one_tree_alone(self):
        self.assert_difference({4: self.A[:17]}, {}, 17,
                               [hunk(4, 0, self.A[:8], []), hunk(4, 0, self.A[8:16], []),
                                hunk(4, 0, self.A[16:17], []), [3, 4]])
        self.assert_difference({}, {4: self.B[:17]}, 17,
                               [[2, 4], hunk(4, 0, [], self.B[:8]), hunk(4, 8, [], self.B[8:16]),
                                hunk(4, 16, [], self.B[16:17])])

    def test_files_of_40_tokens(self):
        hunks = [(n * 8, self.A[n * 8:n * 8 + 8], self.B[n * 8:n * 8 + 8]) for n in range(5)]
        self.assert_hunks(self.A, self.B, 80, hunks)
        self.assert_hunks(self.A, self.A[:39] + [99], 2, [(39, self.A[39:], [99])])
        self.assert_hunks(self.A, self.A[1:] + self.A[:1], 2, [(40, [], self.A[:1]), (0, self.A[:1], [])])

    def test_each_count_of_taken_and_put(self):
        for taken in range(41):
            for put in range(0, 41, 3):
                row = self.ask_of(tree_text({0: self.A[:taken]}), difference(tree_numbers({0: self.B[:put]})))[0]
                steps = steps_apart(row[1:])
                self.assertEqual(row[0], taken + put)
                self.assertEqual(len(steps), (max(taken, put) + 7) // 8)
                self.assertEqual(made_of({0: self.A[:taken]}, steps), {0: self.B[:put]})

    def test_ten_files_of_40_tokens(self):
        # Tokens of one digit, so that they are a text of less than 1500 bytes.
        first = {name: [(name + n * n) % 7 for n in range(40)] for name in range(10)}
        second = {name: [(name * n + n // 3) % 9 for n in range(40)] for name in range(10)}
        row = self.ask_of(tree_text(first), difference(tree_numbers(second)))[0]
        steps = []
        for name in range(10):
            for place, taken, put in reversed(as_document_tells(tuple(first[name]), tuple(second[name]))):
                while taken or put:
                    steps.append(hunk(name, place, taken[:8], put[:8]))
                    place += len(put[:8])
                    taken, put = taken[8:], put[8:]
        self.assertEqual(steps_apart(row[1:]), steps)
        self.assertEqual(row[0], sum(80 - 2 * common(tuple(first[name]), tuple(second[name])) for name in range(10)))
        self.assertEqual(made_of(first, steps), second)

    def test_ten_files_that_are_taken_and_ten_that_are_put(self):
        files = {name: [name] * 40 for name in range(10)}
        taken = [step for name in files for step in [hunk(name, 0, [name] * 8, [])] * 5 + [[3, name]]]
        self.assert_difference(files, {}, 400, taken)
        put = [step for name in files
               for step in [[2, name]] + [hunk(name, place, [], [name] * 8) for place in range(0, 40, 8)]]
        self.assert_difference({}, files, 400, put)


class NoTree(Case):
    WHOLE = ([0], [1, 0, 0], [1, 9, 2, 0, 99], [2, 0, 1, 5, 3, 0], [3, 1, 0, 2, 2, 7, 8, 9, 1, 1])

    def assert_no_tree(self, given):
        self.assertEqual(self.ask_of(EXAMPLE, difference(given), difference([1, 0, 3, 1, 2, 3])), [[-5], [0, 0]], given)

    def assert_tree(self, given):
        self.assertNotEqual(self.ask_of(EXAMPLE, difference(given)), [[-5]], given)

    def test_an_empty_list(self):
        self.assert_no_tree([])

    def test_too_few_numbers(self):
        for given in self.WHOLE:
            self.assert_tree(given)
            for length in range(len(given)):
                self.assert_no_tree(given[:length])

    def test_numbers_too_many(self):
        for given in self.WHOLE:
            for behind in ([0], [1], [-1], [FAR], [9, 0], given):
                self.assert_no_tree(given + behind)
        self.assert_no_tree([0] * 500)
        self.assert_no_tree([FAR] * 500)

    def test_far_numbers_in_each_place(self):
        for given in self.WHOLE:
            for place in range(len(given)):
                for number in (FAR, -FAR, -1, 2 ** 64, -2 ** 32):
                    self.assert_no_tree(given[:place] + [number] + given[place + 1:])

    def test_a_count_of_files(self):
        self.assert_no_tree([-1])
        self.assert_no_tree([-1, 0, 0])
        self.assert_no_tree([1])
        self.assert_no_tree([2, 0, 0])
        self.assert_no_tree([1, 0, 0, 1, 0])
        ten = [number for name in range(10) for number in (name, 0)]
        self.assert_tree([10] + ten)
        self.assert_no_tree([11] + ten)
        self.assert_no_tree([11] + ten + [10, 0])
        self.assert_no_tree([11] + ten + [9, 0])

    def test_names_that_do_not_rise(self):
        self.assert_tree([2, 3, 0, 4, 0])
        self.assert_no_tree([2, 4, 0, 3, 0])
        self.assert_no_tree([2, 3, 0, 3, 0])
        self.assert_no_tree([2, 0, 1, 5, 0, 1, 5])
        self.assert_no_tree([2, 3, 0, 3, 0, 4, 0])
        self.assert_no_tree([1, 3, 0, 3, 0])
        self.assert_no_tree([3, 1, 0, 2, 0, 1, 0])
        self.assert_no_tree([3, 1, 0, 5, 0, 4, 0])
        self.assert_no_tree([3, 0, 0, 9, 0, 9, 0])

    def test_names(self):
        for name in (0, 9):
            self.assert_tree([1, name, 0])
        for name in (-1, 10):
            self.assert_no_tree([1, name, 0])
            self.assert_no_tree([2, name, 0, 5, 0])
            self.assert_no_tree([2, 5, 0, name, 0])

    def test_tokens(self):
        for token in (0, 99):
            self.assert_tree([1, 0, 1, token])
        for token in (-1, 100):
            self.assert_no_tree([1, 0, 1, token])
            self.assert_no_tree([1, 0, 3, 1, token, 2])
            self.assert_no_tree([2, 0, 0, 1, 1, token])

    def test_a_count_of_tokens(self):
        self.assert_no_tree([1, 0, -1])
        self.assert_no_tree([1, 0, -1, 5])
        self.assert_tree([1, 0, 40] + [5] * 40)
        self.assert_no_tree([1, 0, 41] + [5] * 41)
        self.assert_no_tree([1, 0, 41] + [5] * 40)
        self.assert_no_tree([1, 0, 40] + [5] * 39)
        self.assert_no_tree([1, 0, 2, 5])
        self.assert_no_tree([2, 0, 3, 1, 1, 0])

    def test_as_much_as_a_tree_can_hold(self):
        self.assert_tree(tree_numbers({name: [99] * 40 for name in range(10)}))
        self.assert_no_tree(tree_numbers({name: [99] * (41 if name == 9 else 40) for name in range(10)}))

    def test_no_text_comes_first(self):
        for given in ([], [0], [1], [FAR] * 500, tree_numbers({name: [99] * 40 for name in range(10)})):
            self.assertEqual(self.ask(difference(given)), [[-8]])
        self.assertEqual(self.ask(load("?"), difference([]), load(" " * 1501), difference([])),
                         [[1, 1, 0], [-8], [-1], [-8]])


class Kept(Case):
    def test_the_text_stays_as_it_is(self):
        around = (SHOWN, TOLD, tree(0), tree(3), GOES, STEPS)
        for given in ([0], [1, 0, 3, 1, 9, 3], [2, 0, 0, 5, 1, 5], [], [1, 10, 0]):
            each = self.ask_of(EXAMPLE, *around, difference(given), *around, difference(given))
            self.assertEqual(each[:6], each[7:13])
            self.assertEqual(each[6], each[13])
