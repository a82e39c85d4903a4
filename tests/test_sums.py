"""[5], [22]: sums together, and what follows from sums; of [3], that it then holds where they do."""

import random
import unittest

from linecourt.forms import is_form
from linecourt.sums import sum_of, summed
from tests.making import FALSE, SMALL_WORLDS, bent_sums, total
from tests.slowcourt import slow_summed

GREAT = 10 ** 12 - 1


def least(one, other):
    return ("least", one, other)


class Together(unittest.TestCase):
    def test_none_and_one(self):
        self.assertEqual(sum_of(()), ((), 0))
        for one in (total(0), total(5), total(0, cat=1), total(7, cat=2, dog=9), total(GREAT, cat=GREAT)):
            self.assertEqual(sum_of((one,)), one)
            self.assertEqual(sum_of((one, total(0))), one)

    def test_several(self):
        self.assertEqual(sum_of((total(0, cat=1), total(0, cat=1))), ((("cat", 2),), 0))
        self.assertEqual(sum_of((total(0, dog=1), total(0, cat=1))), ((("cat", 1), ("dog", 1)), 0))
        self.assertEqual(
            sum_of((total(1, dog=2), total(2, ant=3), total(3, cat=4, dog=5), total(4))),
            ((("ant", 3), ("cat", 4), ("dog", 7)), 10))
        self.assertEqual(sum_of((total(GREAT, cat=GREAT),) * 20), total(20 * GREAT, cat=20 * GREAT))

    def test_any_order(self):
        chance = random.Random(5)
        for _ in range(200):
            totals = [
                total(chance.randrange(3), **{kind: chance.randrange(1, 4) for kind in ("ant", "bee", "cat") if chance.random() < 0.5})
                for _ in range(chance.randrange(6))]
            told = sum_of(tuple(totals))
            self.assertTrue(is_form(("least", told, told)))
            self.assertEqual(told[1], sum(number for _, number in totals))
            for kind in ("ant", "bee", "cat"):
                self.assertEqual(dict(told[0]).get(kind, 0), sum(dict(parts).get(kind, 0) for parts, _ in totals))
            chance.shuffle(totals)
            self.assertEqual(sum_of(tuple(totals)), told)


class Asking(unittest.TestCase):
    def told(self, form, forms, times):
        told = summed(form, forms, times)
        self.assertIs(told, slow_summed(form, forms, times), (form, forms, times))
        return told

    def yes(self, form, forms, times):
        self.assertIs(self.told(form, forms, times), True, (form, forms, times))

    def no(self, form, forms, times):
        self.assertIs(self.told(form, forms, times), False, (form, forms, times))


class Follows(Asking):
    CAT_DOG = least(total(0, cat=1), total(0, dog=1))
    DOG_ANT = least(total(0, dog=1), total(0, ant=1))

    def test_none(self):
        self.yes(least(total(0), total(0)), (), ())
        self.yes(least(total(3, cat=2), total(3, cat=1)), (), ())
        self.yes(least(total(3, cat=2, dog=1), total(3, cat=2)), (), ())
        self.no(least(total(0), total(1)), (), ())
        self.no(least(total(9, cat=2), total(0, cat=3)), (), ())
        self.no(least(total(9, cat=9), total(0, dog=1)), (), ())

    def test_one(self):
        self.yes(self.CAT_DOG, (self.CAT_DOG,), (1,))
        self.no(self.CAT_DOG, (self.CAT_DOG,), (0,))
        self.no(self.CAT_DOG, (self.CAT_DOG,), (2,))
        self.no(self.CAT_DOG, (self.DOG_ANT,), (1,))
        self.yes(least(total(0, cat=2), total(0, dog=2)), (self.CAT_DOG,), (2,))
        self.no(least(total(0, dog=1), total(0, cat=1)), (self.CAT_DOG,), (1,))

    def test_several(self):
        whole = least(total(0, cat=1), total(0, ant=1))
        self.yes(whole, (self.CAT_DOG, self.DOG_ANT), (1, 1))
        self.yes(whole, (self.DOG_ANT, self.CAT_DOG), (1, 1))
        self.no(whole, (self.CAT_DOG, self.DOG_ANT), (1, 2))
        self.no(whole, (self.CAT_DOG,), (1,))
        self.yes(least(total(5, cat=2, dog=1), total(5, ant=3)), (self.CAT_DOG, self.DOG_ANT), (2, 3))
        self.yes(least(total(0), total(0)), (least(total(0), total(1, cat=1)), self.CAT_DOG), (0, 0))

    def test_false_of_itself(self):
        absurd = least(total(0), total(1))
        self.yes(absurd, (least(total(0, cat=1), total(1, cat=1)),), (1,))
        self.yes(absurd, (least(total(0, cat=1), total(1, dog=1)), least(total(0, dog=1), total(0, cat=1))), (1, 1))

    def test_no_less_and_one_less(self):
        form = least(total(4, cat=5, dog=1), total(2, ant=6, cat=1))
        self.yes(form, (form,), (1,))
        for more in (total(5, cat=5, dog=1), total(4, cat=6, dog=1), total(4, cat=5, dog=2), total(4, ant=1, cat=5, dog=1)):
            self.yes(least(more, form[2]), (form,), (1,))
            self.no(form, (least(more, form[2]),), (1,))
        for less in (total(3, cat=5, dog=1), total(4, cat=4, dog=1), total(4, cat=5)):
            self.no(least(less, form[2]), (form,), (1,))
            self.yes(form, (least(less, form[2]),), (1,))
        for more in (total(3, ant=6, cat=1), total(2, ant=7, cat=1), total(2, ant=6, cat=2), total(2, ant=6, cat=1, dog=1)):
            self.no(least(form[1], more), (form,), (1,))

    def test_the_same_on_both_sides(self):
        self.yes(least(total(7, bee=3, cat=1), total(7, bee=3, dog=1)), (self.CAT_DOG,), (1,))
        self.yes(self.CAT_DOG, (least(total(7, bee=3, cat=1), total(7, bee=3, dog=1)),), (1,))
        self.no(least(total(7, bee=3, cat=1), total(8, bee=3, dog=1)), (self.CAT_DOG,), (1,))

    def test_great_numbers(self):
        most = 10 ** 8
        self.yes(least(total(0, cat=most), total(0, dog=most)), (self.CAT_DOG,), (most,))
        self.no(least(total(0, cat=most - 1), total(0, dog=most)), (self.CAT_DOG,), (most,))
        self.no(least(total(0, cat=most), total(0, dog=most + 1)), (self.CAT_DOG,), (most,))
        great = least(total(GREAT, cat=GREAT), total(GREAT - 1, dog=GREAT))
        self.yes(great, (great,), (1,))
        self.no(least(great[1], total(GREAT, dog=GREAT)), (great,), (1,))
        self.yes(least(total(GREAT * most, cat=GREAT * most), total((GREAT - 1) * most, dog=GREAT * most)), (great,), (most,))
        self.no(least(total(GREAT * most - 1, cat=GREAT * most), total((GREAT - 1) * most, dog=GREAT * most)), (great,), (most,))

    def test_twenty(self):
        kinds = [first + second for first in "abcd" for second in "pqrst"] + ["zz"]
        row = tuple(least(total(0, **{one: 1}), total(0, **{other: 1})) for one, other in zip(kinds, kinds[1:]))
        self.assertEqual(len(row), 20)
        whole = least(total(0, **{kinds[0]: 1}), total(0, zz=1))
        self.yes(whole, row, (1,) * 20)
        self.yes(whole, row[::-1], (1,) * 20)
        for at in range(20):
            self.no(whole, row, (1,) * at + (0,) + (1,) * (19 - at))
            self.no(whole, row, (1,) * at + (2,) + (1,) * (19 - at))

    def test_forms_that_are_no_such(self):
        for form in (FALSE, ("is", "Ann", "cat"), ("not", self.CAT_DOG), ("and", self.CAT_DOG, self.CAT_DOG), ("if", FALSE, FALSE)):
            self.no(form, (), ())
            self.no(form, (self.CAT_DOG,), (1,))
            for often in (0, 1):
                self.no(self.CAT_DOG, (form,), (often,))
                self.no(self.CAT_DOG, (self.CAT_DOG, form), (1, often))
                self.no(self.CAT_DOG, (form, self.CAT_DOG), (often, 1))

    def test_times_that_fit_not(self):
        self.assertIs(summed(self.CAT_DOG, (self.CAT_DOG,), ()), False)
        self.assertIs(summed(self.CAT_DOG, (self.CAT_DOG,), (1, 1)), False)
        self.assertIs(summed(least(total(0, dog=1), total(0, cat=1)), (self.CAT_DOG,), (-1,)), False)


class ByChance(Asking):
    def random_form(self, chance):
        return least(*(
            total(chance.randrange(3), **{kind: chance.randrange(1, 3) for kind in ("cat", "dog") if chance.random() < 0.6})
            for _ in range(2)))

    def test_what_follows_holds(self):
        chance = random.Random(22)
        told = {True: 0, False: 0}
        for _ in range(1500):
            forms = tuple(self.random_form(chance) for _ in range(chance.randrange(4)))
            times = tuple(chance.randrange(3) for _ in forms)
            form = least(
                sum_of([one[1] for one, often in zip(forms, times) for _ in range(often)]),
                sum_of([one[2] for one, often in zip(forms, times) for _ in range(often)]))
            self.yes(form, forms, times)
            if chance.random() < 0.7:
                at = chance.randrange(1, 3)
                form = form[:at] + (chance.choice(list(bent_sums(form[at]))),) + form[at + 1:]
            follows = self.told(form, forms, times)
            told[follows] += 1
            if follows:
                self.assertTrue(SMALL_WORLDS.follows(form, forms), (form, forms, times))
        self.assertGreater(min(told.values()), 300)


if __name__ == "__main__":
    unittest.main()
