"""[26]: the rows of several jobs at once."""

import random

from servedalone.batches import rows_in_batch
from servedalone.errors import InvalidLetter
from servedalone.nets import Net
from servedalone.plain import rows_of
from tests.helpers import COUNTING, Case, as_lists, parts_of_net, reckoned_row, some_net, spoil, wrong_numbers


def some_letters(source, letters, least, most):
    return tuple(source.randrange(letters) for _ in range(source.randint(least, most)))


def some_jobs(source, net, many):
    """Jobs with the letters whose rows came before."""
    begun = [some_letters(source, net.letters, 0, 5) for _ in range(many)]
    jobs = [(rows_of(net, letters), some_letters(source, net.letters, 0, 6)) for letters in begun]
    return tuple(jobs)


def one_by_one(row, jobs):
    """The rows of each job, each after those before it."""
    found = []
    for rows, letters in jobs:
        whole = tuple(rows)
        for letter in letters:
            whole += (row(whole, letter),)
        found.append(whole[len(rows):])
    return tuple(found)


class RowsInBatch(Case):
    def test_against_row_after_row(self):
        shapes = set()
        for seed in range(240):
            source = random.Random(seed)
            parts = parts_of_net(source, layers=seed % 4, width=1 + seed // 4 % 4)
            net = Net(*parts)
            jobs = some_jobs(source, net, seed % 9)
            shapes.add((seed % 4, len(jobs)))
            wanted = one_by_one(net.row, jobs)
            self.assert_same(rows_in_batch(net, jobs), wanted)
            self.assert_same(self.assert_keeps(rows_in_batch, net, as_lists(jobs)), wanted)
            by_hand = one_by_one(lambda rows, letter: reckoned_row(parts, rows, letter), jobs)
            self.assert_same(wanted, by_hand)
        self.assertEqual(len(shapes), 36)

    def test_no_jobs(self):
        for layers in (0, 3):
            self.assert_same(rows_in_batch(some_net(1, layers=layers), ()), ())
            self.assert_same(rows_in_batch(some_net(1, layers=layers), []), ())

    def test_jobs_without_letters(self):
        for layers in (0, 3):
            net = some_net(2, layers=layers, letters=3)
            before = rows_of(net, (0, 1, 2))
            self.assert_same(rows_in_batch(net, (((), ()), (before, ()))), ((), ()))
            found = rows_in_batch(net, ((before, []), ([], (2,)), ((), ())))
            self.assert_same(found, ((), (net.row((), 2),), ()))

    def test_jobs_do_not_touch_each_other(self):
        net = some_net(3, layers=3, letters=4, width=3)
        before = list(rows_of(net, (3, 1, 2)))
        jobs = [(before, (0, 1)), (before, (0, 1)), ([], (3, 1, 2)), (before, [2])]
        found = rows_in_batch(jobs=jobs, net=net)
        self.assert_same(found[0], found[1])
        self.assert_same(found[2], tuple(before))
        self.assert_same(found, one_by_one(net.row, jobs))
        for number, job in enumerate(jobs):
            self.assert_same(rows_in_batch(net, (job,)), (found[number],))

    def test_how_many_came_before_counts(self):
        net = Net(7, ((1,), (2,)), (3,), (), ((1,), (2,)), None)
        before = rows_of(net, (1, 0))
        self.assert_same(rows_in_batch(net, ((before, (1, 1)),)), ((((), (2, 3)), ((), (5, 2))),))

    def test_later_changes(self):
        net = some_net(4, layers=2, letters=3)
        jobs = as_lists(some_jobs(random.Random(4), net, 5))
        wanted = one_by_one(net.row, jobs)
        found = rows_in_batch(net, jobs)
        spoil(jobs)
        self.assert_same(found, wanted)

    def test_wrong_letters(self):
        net = Net(*COUNTING)
        rows = rows_of(net, (1, 2))
        for letter in wrong_numbers(0, 3):
            for jobs in (
                ((rows, (letter,)),), [[rows, [3, letter, 9]]], ((rows, (1, 2)), ((), (letter,)), (rows, (7,))),
                (((), (0, letter)), (rows, ("other", -1)), ((), (letter,))), (((), ()), ((), (3, 0, letter))),
            ):
                self.assert_fails(InvalidLetter, {"letter": letter}, rows_in_batch, net, jobs)

    def test_the_first_wrong_letter_job_by_job(self):
        net = Net(*COUNTING)
        jobs = (((), (0, 1, 2, 3, 4)), ((), (5,)))
        self.assert_fails(InvalidLetter, {"letter": 4}, rows_in_batch, net, jobs)
        self.assert_fails(InvalidLetter, {"letter": 5}, rows_in_batch, net, jobs[::-1])
