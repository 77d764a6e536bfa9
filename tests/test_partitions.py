"""Partitions, against a direct look at all their holders and pairs of holders."""

import inspect
import itertools
import unittest

from cutshows import partitions
from cutshows.errors import InvalidClasses, InvalidHolder, InvalidPartition, OtherHolders
from cutshows.partitions import Partition, all_partitions, count_of
from tests import common

EXAMPLES = """
>>> from cutshows.partitions import Partition
>>> both = Partition([0, 1, 0, 1])
>>> [both.fresh(0), both.copied(1, 0), both & Partition([0, 0, 0, 1]), both.groups()]
[Partition((0, 1, 2, 1)), Partition((0, 0, 0, 1)), Partition((0, 1, 0, 2)), [[0, 2], [1, 3]]]
"""

# What is never an INTEGER; of tuples and slices too, as partition[..] may be passed such.
NO_INTEGERS = [None, True, False, "", "0", "a", b"0", [], [0], (), (0,), (0, 1), {}, {0: 0}, slice(0, 1), object()]
NO_MANY = NO_INTEGERS + [-1, 0, 9, 10, -999999999, 999999999]
COUNTS = [1, 2, 5, 15, 52, 203, 877, 4140]


def is_sequence(classes):
    """Whether these are the classes of a partition, read straight off [11]."""
    seen = []
    for number in classes:
        if number == -1:
            continue
        if number not in seen:
            if number != len(seen):
                return False
            seen.append(number)
    return True


def classes_of(many):
    """The classes of all partitions of so many holders, gone ones too, ascending."""
    return [told for told in itertools.product(range(-1, many), repeat=many) if is_sequence(told)]


def pairs_of(classes):
    """The set of the pairs of alike holders; one that is not gone is alike with itself."""
    return {
        (one, other)
        for one, first in enumerate(classes) for other, second in enumerate(classes)
        if first != -1 and first == second
    }


def gone_of(classes):
    return [holder for holder, number in enumerate(classes) if number == -1]


def told_by(many, is_alike):
    """The classes of so many holders of which those are alike that the function tells to be alike."""
    classes = []
    fresh = 0
    for holder in range(many):
        if not is_alike(holder, holder):
            classes.append(-1)
            continue
        found = [classes[earlier] for earlier in range(holder) if is_alike(earlier, holder)]
        classes.append(found[0] if found else fresh)
        fresh += not found
    return tuple(classes)


def told_by_pairs(many, pairs):
    return told_by(many, lambda one, other: (one, other) in pairs)


def closed_pairs(many, pairs):
    """Pairs to which all are added that hang together by them."""
    closed = set(pairs)
    for middle, one, other in itertools.product(range(many), repeat=3):
        if (one, middle) in closed and (middle, other) in closed:
            closed.add((one, other))
    return closed


SMALL = [told for many in (1, 2, 3, 4) for told in classes_of(many)]
SOME_LARGE = [
    (0, 1, 2, 3, 4, 5, 6, 7), (0,) * 8, (-1,) * 8, (0, 1, 0, 1, 2, 2, 0, 3), (-1, 0, -1, 1, 0, -1, 2, 1),
    (0, -1, -1, -1, -1, -1, -1, 0), (-1, 0, 1, 2, 3, 4, 5, 6), (0, 0, 1, 1, 2, 2, 3, 3),
    (0, 1, 2, 3, 3, 2, 1, 0), (0, 1, 2, 2, -1),
]
ALL = SMALL + SOME_LARGE


class Case(common.Case):
    def no_holder(self, value, action, *told, **more):
        self.raised(InvalidHolder, {"value": value}, action, *told, **more)


class Examples(Case):
    def test_word_for_word(self):
        self.word_for_word(EXAMPLES, 3, "Stage 1")


class Interface(unittest.TestCase):
    def test_each_is_defined_in_its_file(self):
        for value in (Partition, all_partitions, count_of):
            self.assertEqual(value.__module__, partitions.__name__)

    def test_each_method_stands_in_the_class(self):
        for name in (
            "__init__", "__len__", "__getitem__", "__iter__", "__eq__", "__repr__", "__and__", "__or__",
            "is_alike", "groups", "gone", "copied", "fresh", "without", "renamed", "is_finer",
        ):
            self.assertTrue(inspect.isfunction(vars(Partition)[name]), name)
        for name in ("apart", "together"):
            self.assertIsInstance(vars(Partition)[name], classmethod)
        self.assertIsInstance(vars(Partition)["classes"], property)

    def test_class_value(self):
        self.assertEqual(Partition.MOST_HOLDERS, 8)
        self.assertIs(Partition.MOST_HOLDERS.__class__, int)
        self.assertEqual(Partition([0]).MOST_HOLDERS, 8)

    def test_arguments_by_name(self):
        one = Partition(classes=[0, 1, 0])
        self.assertEqual(one, Partition([0, 1, 0]))
        self.assertEqual(Partition.apart(many=2), Partition([0, 1]))
        self.assertEqual(Partition.together(many=2), Partition([0, 0]))
        self.assertEqual(one.copied(target=1, source=0), Partition([0, 0, 0]))
        self.assertEqual(one.copied(source=1, target=0), Partition([0, 0, 1]))
        self.assertEqual(one.renamed(order=[1, 0, 2]), Partition([0, 1, 1]))
        self.assertIs(one.is_finer(other=Partition([0, 0, 0])), True)
        self.assertEqual(list(all_partitions(many=1)), [Partition([0])])
        self.assertEqual(count_of(many=3), 5)


class Making(Case):
    def test_all_classes_that_are_right_and_all_that_are_not(self):
        for many in (1, 2, 3, 4):
            for classes in itertools.product(range(-2, many + 1), repeat=many):
                if -2 not in classes and is_sequence(classes):
                    self.assertEqual(Partition(classes).classes, classes)
                    self.assertEqual(Partition(list(classes)).classes, classes)
                else:
                    self.raised(InvalidClasses, {"value": classes}, Partition, classes)
                    self.raised(InvalidClasses, {"value": list(classes)}, Partition, list(classes))

    def test_one_and_eight_holders(self):
        for classes in [(0,), (-1,)] + SOME_LARGE:
            self.assertEqual(Partition(classes).classes, classes)
            self.assertEqual(len(Partition(classes)), len(classes))

    def test_none_and_nine_holders(self):
        for value in ([], (), [0] * 9, (0,) * 9, list(range(9)), [-1] * 9, [0] * 500):
            self.raised(InvalidClasses, {"value": value}, Partition, value)

    def test_gone_holders_anywhere(self):
        for classes in ((-1, 0, 1), (0, -1, 0), (0, 1, -1), (-1, -1, 0), (-1, -1, -1)):
            self.assertEqual(Partition(classes).classes, classes)

    def test_out_of_sequence_or_a_number_left_out(self):
        for value in (
            [1], [1, 0], [0, 2], [0, 0, 2], [0, 1, 3], [-1, 1], [-1, 1, 0], [0, 2, 1], [7], [0, 1, 2, 3, 4, 5, 6, 8],
            [-2], [0, -2], [-1, -2, 0], [999999999], [-999999999],
        ):
            self.raised(InvalidClasses, {"value": value}, Partition, value)

    def test_elements_that_are_no_integers(self):
        for wrong in [value for value in NO_INTEGERS if value != -1]:
            for value in ([wrong], [0, wrong], [0, 1, wrong, 1], (wrong, 0), (0, wrong)):
                self.raised(InvalidClasses, {"value": value}, Partition, value)

    def test_true_is_not_1(self):
        self.raised(InvalidClasses, {"value": [0, True]}, Partition, [0, True])
        self.raised(InvalidClasses, {"value": [False]}, Partition, [False])
        with self.assertRaises(InvalidClasses) as caught:
            Partition((0, 1, True))
        self.assertIs(caught.exception.value[2], True)

    def test_values_that_are_no_lists(self):
        for value in (
            None, True, False, 0, 1, -1, "", "0", "01", b"\x00", {}, {0: 0}, {0: 0, 1: 1}, {0}, range(1), range(2),
            object(), Partition([0]), Partition,
        ):
            self.raised(InvalidClasses, {"value": value}, Partition, value)

    def test_apart_and_together(self):
        for many in range(1, 9):
            self.assertEqual(Partition.apart(many).classes, tuple(range(many)))
            self.assertEqual(Partition.together(many).classes, (0,) * many)
            self.assertIs(Partition.apart(many).__class__, Partition)
            self.assertIs(Partition.together(many).__class__, Partition)

    def test_apart_and_together_of_wrong_numbers(self):
        for value in NO_MANY:
            self.no_holder(value, Partition.apart, value)
            self.no_holder(value, Partition.together, value)


class Telling(Case):
    def test_classes_and_len(self):
        for classes in ALL:
            partition = Partition(list(classes))
            self.assertIs(partition.classes.__class__, tuple)
            self.assertEqual(partition.classes, classes)
            self.assertEqual(len(partition), len(classes))
            with self.assertRaises(AttributeError):
                partition.classes = (0,)

    def test_class_of_a_holder(self):
        for classes in ALL:
            partition = Partition(classes)
            self.assertEqual([partition[holder] for holder in range(len(classes))], list(classes))

    def test_class_of_no_holder(self):
        for classes in ALL:
            many = len(classes)
            for value in NO_INTEGERS + [-1, -many, many, many + 1, 999999999]:
                self.no_holder(value, lambda partition, holder: partition[holder], Partition(classes), value)

    def test_not_iterated_over(self):
        for partition in (Partition([0]), Partition([0, 1, -1])):
            with self.assertRaises(TypeError):
                iter(partition)
            with self.assertRaises(TypeError):
                list(partition)
            with self.assertRaises(TypeError):
                0 in partition

    def test_alike(self):
        for classes in SMALL:
            partition, pairs = Partition(classes), pairs_of(classes)
            self.assertIs(partition.is_alike(), True)
            for length in (1, 2, 3):
                for holders in itertools.product(range(len(classes)), repeat=length):
                    expected = all((one, other) in pairs for one in holders for other in holders)
                    self.assertIs(partition.is_alike(*holders), expected, (classes, holders))

    def test_alike_of_gone_ones(self):
        partition = Partition([-1, 0, -1, 0])
        self.assertEqual([partition.is_alike(holder) for holder in range(4)], [False, True, False, True])
        self.assertIs(partition.is_alike(0, 0), False)
        self.assertIs(partition.is_alike(0, 2), False)
        self.assertIs(partition.is_alike(1, 3, 1), True)
        self.assertIs(partition.is_alike(1, 3, 2), False)
        self.assertIs(Partition([-1, -1]).is_alike(), True)

    def test_alike_of_many(self):
        self.assertIs(Partition.together(8).is_alike(*range(8)), True)
        self.assertIs(Partition([0, 0, 0, 0, 0, 0, 0, 1]).is_alike(*range(8)), False)
        self.assertIs(Partition.together(2).is_alike(*[0, 1] * 20), True)

    def test_groups_and_gone(self):
        for classes in ALL:
            partition, pairs = Partition(classes), pairs_of(classes)
            holders = range(len(classes))
            groups = [[other for other in holders if (one, other) in pairs] for one in holders]
            expected = [group for one, group in enumerate(groups) if group and group[0] == one]
            self.assertEqual(partition.groups(), expected)
            self.assertEqual(partition.gone(), gone_of(classes))
            self.assertEqual([group.__class__ for group in partition.groups()], [list] * len(expected))
            self.assertIs(partition.gone().__class__, list)

    def test_groups_of_gone_ones_alone(self):
        self.assertEqual(Partition([-1, -1]).groups(), [])
        self.assertEqual(Partition([-1, -1]).gone(), [0, 1])
        self.assertEqual(Partition([0]).gone(), [])

    def test_equal(self):
        for one in ALL:
            for other in ALL:
                self.assertIs(Partition(one) == Partition(list(other)), one == other)
                self.assertIs(Partition(one) != Partition(list(other)), one != other)

    def test_not_equal_to_other_values(self):
        for value in [(0, 1), [0, 1], "Partition((0, 1))", None, 0, True, {}, Partition, object()]:
            self.assertIs(Partition([0, 1]) == value, False)
            self.assertIs(value == Partition([0, 1]), False)
            self.assertIs(Partition([0, 1]) != value, True)

    def test_repr(self):
        self.assertEqual(repr(Partition([0, 1, 0])), "Partition((0, 1, 0))")
        self.assertEqual(repr(Partition([0])), "Partition((0,))")
        self.assertEqual(repr(Partition([-1, 0])), "Partition((-1, 0))")
        for classes in ALL:
            self.assertEqual(repr(Partition(classes)), f"Partition({classes})")
            self.assertEqual(str(Partition(classes)), f"Partition({classes})")


class Deeds(Case):
    def deeds(self, partition):
        return (partition.fresh, partition.without, partition.is_alike)

    def test_copied(self):
        for classes in ALL:
            many, pairs = len(classes), pairs_of(classes)
            for target, source in itertools.product(range(many), repeat=2):
                origin = {holder: source if holder == target else holder for holder in range(many)}
                expected = told_by(many, lambda one, other: (origin[one], origin[other]) in pairs)
                self.assertEqual(Partition(classes).copied(target, source), Partition(expected))

    def test_copied_of_a_gone_one_and_back(self):
        partition = Partition([0, -1, 1])
        self.assertEqual(partition.copied(0, 1), Partition([-1, -1, 0]))
        self.assertEqual(partition.copied(1, 0), Partition([0, 0, 1]))
        self.assertEqual(partition.copied(1, 1), partition)
        self.assertEqual(partition.copied(2, 2), partition)

    def test_fresh(self):
        for classes in ALL:
            many, pairs = len(classes), pairs_of(classes)
            for targets in self.told_holders(many):
                expected = told_by(many, lambda one, other: (
                    one in targets and other in targets if one in targets or other in targets else (one, other) in pairs
                ))
                self.assertEqual(Partition(classes).fresh(*targets), Partition(expected), (classes, targets))

    def test_without(self):
        for classes in ALL:
            many, pairs = len(classes), pairs_of(classes)
            for holders in self.told_holders(many):
                left = {pair for pair in pairs if pair[0] not in holders and pair[1] not in holders}
                self.assertEqual(Partition(classes).without(*holders), Partition(told_by_pairs(many, left)))

    def told_holders(self, many):
        """No holder, each one, two, also the same one twice, several, and all."""
        holders = range(many)
        told = [()] + [(one,) for one in holders] + list(itertools.product(holders, repeat=2))
        return told + list(itertools.combinations(holders, 3)) + [tuple(holders), tuple(reversed(holders)) * 2]

    def test_without_any_nothing_changes(self):
        for classes in ALL:
            self.assertEqual(Partition(classes).fresh(), Partition(classes))
            self.assertEqual(Partition(classes).without(), Partition(classes))

    def test_one_told_twice_counts_once(self):
        partition = Partition([0, 0, 1, -1])
        self.assertEqual(partition.fresh(1, 1), partition.fresh(1))
        self.assertEqual(partition.fresh(3, 0, 3), partition.fresh(0, 3))
        self.assertEqual(partition.without(1, 1), Partition([0, -1, 1, -1]))

    def test_one_that_was_gone(self):
        partition = Partition([-1, 0, -1])
        self.assertEqual(partition.fresh(0), Partition([0, 1, -1]))
        self.assertEqual(partition.fresh(0, 2), Partition([0, 1, 0]))
        self.assertEqual(partition.fresh(2, 1), Partition([-1, 0, 0]))
        self.assertEqual(partition.without(0), partition)
        self.assertEqual(partition.without(1), Partition([-1, -1, -1]))
        self.assertEqual(Partition([-1] * 8).fresh(*range(8)), Partition.together(8))

    def test_no_class_is_left_for_eight(self):
        self.assertEqual(Partition.apart(8).fresh(0), Partition.apart(8))
        self.assertEqual(Partition.apart(8).fresh(7, 0).classes, (0, 1, 2, 3, 4, 5, 6, 0))

    def test_renamed(self):
        for classes in SMALL + [(0, 1, 2, 2, -1)]:
            many, pairs = len(classes), pairs_of(classes)
            for order in itertools.permutations(range(many)):
                expected = told_by(many, lambda one, other: (order[one], order[other]) in pairs)
                self.assertEqual(Partition(classes).renamed(order), Partition(expected))
                self.assertEqual(Partition(classes).renamed(list(order)), Partition(expected))

    def test_renamed_goes_the_told_way_round(self):
        self.assertEqual(Partition([-1, 0, 1, 1]).renamed([1, 2, 3, 0]), Partition([0, 1, 1, -1]))
        self.assertEqual(Partition([0, 1, 1]).renamed((2, 0, 1)), Partition([0, 1, 0]))

    def test_renamed_by_no_order(self):
        partition = Partition([0, 1, -1])
        wrong = [value for value in NO_INTEGERS if value != ()] + [
            (), 3, 0, "012", range(3), {0, 1, 2}, {0: 0, 1: 1, 2: 2}, [0, 1], [0, 1, 2, 3], [0, 1, 1], [0, 0, 0],
            [1, 2, 3], [-1, 0, 1], [0, 1, -1], [0, True, 2], [False, 1, 2], (0, 1, "2"), [0, 1, None], [0, 1, [2]],
            [0, [1], 2], [None, 1, 2], [0, 1, (2,)], [0, 1, 2, 2], [0, 1, {}], (2, 1), partition,
        ]
        for value in wrong:
            self.no_holder(value, partition.renamed, value)

    def test_holders_that_are_none(self):
        for classes in ((0,), (0, 0, -1), (-1, -1), (0, 1, 2, 3, 4, 5, 6, 7)):
            partition, many = Partition(classes), len(classes)
            for value in NO_INTEGERS + [-1, -many, many, many + 1, 8, 999999999]:
                for deed in self.deeds(partition):
                    self.no_holder(value, deed, value)
                    self.no_holder(value, deed, 0, value)
                    self.no_holder(value, deed, value, 0)
                    self.no_holder(value, deed, 0, value, 0, "later")
                self.no_holder(value, partition.copied, value, 0)
                self.no_holder(value, partition.copied, 0, value)

    def test_the_first_that_is_wrong_decides(self):
        partition = Partition([0, 1, -1])
        for first, second in ((3, -1), (-1, 3), ("a", True), (True, "a"), (None, 9)):
            for deed in self.deeds(partition):
                self.no_holder(first, deed, first, second)
                self.no_holder(first, deed, 0, 1, first, second)
            self.no_holder(first, partition.copied, first, second)
            self.no_holder(first, partition.copied, source=second, target=first)

    def test_wrong_holders_behind_unlike_or_gone_ones(self):
        self.no_holder(2, Partition([0, 1]).is_alike, 0, 1, 2)
        self.no_holder(2, Partition([-1, 0]).is_alike, 0, 2)


class Pairs(Case):
    """is_finer, & and |, for all pairs of partitions of up to four holders, with gone ones."""

    def pairs(self):
        for many in (1, 2, 3, 4):
            for one, other in itertools.product(classes_of(many), repeat=2):
                if gone_of(one) == gone_of(other):
                    yield many, one, other

    def test_how_many_pairs(self):
        # Of k holders that are not gone there are 1, 1, 2, 5, 15 partitions, for k from 0 on.
        self.assertEqual(len(list(self.pairs())), 2 + 7 + 1 + 3 + 12 + 25 + 1 + 4 + 24 + 100 + 225)

    def test_is_finer(self):
        for _, one, other in self.pairs():
            expected = pairs_of(one) <= pairs_of(other)
            self.assertIs(Partition(one).is_finer(Partition(other)), expected, (one, other))

    def test_meet(self):
        for many, one, other in self.pairs():
            expected = told_by_pairs(many, pairs_of(one) & pairs_of(other))
            self.assertEqual(Partition(one) & Partition(other), Partition(expected), (one, other))

    def test_join(self):
        for many, one, other in self.pairs():
            expected = told_by_pairs(many, closed_pairs(many, pairs_of(one) | pairs_of(other)))
            self.assertEqual(Partition(one) | Partition(other), Partition(expected), (one, other))

    def test_join_is_the_finest_above_both(self):
        for many, one, other in self.pairs():
            joined = pairs_of((Partition(one) | Partition(other)).classes)
            for third in classes_of(many):
                if gone_of(third) == gone_of(one) and pairs_of(third) >= pairs_of(one) | pairs_of(other):
                    self.assertLessEqual(joined, pairs_of(third))

    def test_eight_holders(self):
        one, other = Partition([0, 0, 1, 1, 2, 2, 3, 3]), Partition([0, 1, 1, 2, 2, 3, 3, 4])
        self.assertEqual(one | other, Partition.together(8))
        self.assertEqual(one & other, Partition.apart(8))
        self.assertIs(one.is_finer(other), False)
        self.assertIs((one & other).is_finer(one), True)
        self.assertIs(one.is_finer(one | other), True)

    def test_a_join_over_several_steps(self):
        self.assertEqual(Partition([0, 1, 2, 2, 1]) | Partition([0, 0, 1, 2, 2]), Partition([0] * 5))
        self.assertEqual(Partition([-1, 0, 0, 1, 2]) | Partition([-1, 0, 1, 1, 2]), Partition([-1, 0, 0, 0, 1]))

    def ways(self):
        return (
            lambda one, other: one.is_finer(other),
            lambda one, other: one & other,
            lambda one, other: one | other,
        )

    def test_values_of_other_kinds(self):
        values = [None, True, 0, 1, "", "a", [0, 1], (0, 1), {}, {0: 1}, {0, 1}, set(), b"", object(), Partition]
        for value in values:
            for way in self.ways():
                self.raised(InvalidPartition, {"value": value}, way, Partition([0, 1]), value)

    def test_values_of_other_kinds_on_the_left(self):
        for value in (None, True, 0, "a", [0, 1], (0, 1), {}, {0, 1}, object()):
            for way in self.ways()[1:]:
                self.raised(InvalidPartition, {"value": value}, way, value, Partition([0, 1]))

    def test_other_numbers_of_holders_or_other_gone_ones(self):
        for one, other in itertools.product(SMALL, repeat=2):
            if len(one) != len(other) or gone_of(one) != gone_of(other):
                attributes = {"one": Partition(one), "other": Partition(other)}
                for way in self.ways():
                    self.raised(OtherHolders, attributes, way, Partition(one), Partition(other))

    def test_as_many_gone_but_others(self):
        one, other = Partition([0, -1, 0]), Partition([-1, 0, 0])
        for way in self.ways():
            self.raised(OtherHolders, {"one": one, "other": other}, way, one, other)


class NothingChanges(unittest.TestCase):
    def test_a_partition_never_changes(self):
        for classes in ALL:
            partition, other = Partition(classes), Partition(classes)
            order = list(reversed(range(len(classes))))
            for _ in range(2):
                partition.fresh(0)
                partition.without(0)
                partition.copied(0, len(classes) - 1)
                partition.renamed(order)
                partition.is_alike(0)
                partition.is_finer(other)
                partition & other
                partition | other
                partition.groups()
                partition.gone()
                repr(partition)
                self.assertEqual(partition.classes, classes)
                self.assertEqual(other.classes, classes)
            self.assertEqual(order, list(reversed(range(len(classes)))))

    def test_in_place_signs_make_another_one(self):
        partition = kept = Partition([0, 0, 1])
        partition &= Partition([0, 1, 1])
        self.assertEqual((partition, kept), (Partition([0, 1, 2]), Partition([0, 0, 1])))
        partition = kept
        partition |= Partition([0, 1, 1])
        self.assertEqual((partition, kept), (Partition([0, 0, 0]), Partition([0, 0, 1])))

    def test_an_error_changes_nothing(self):
        partition = Partition([0, 1, -1])
        for action in (
            lambda: partition.fresh(0, 9), lambda: partition.without(0, 9), lambda: partition.copied(0, 9),
            lambda: partition.renamed([0]), lambda: partition & 1, lambda: partition | Partition([0]),
            lambda: partition[9],
        ):
            with self.assertRaises((InvalidHolder, InvalidPartition, OtherHolders)):
                action()
            self.assertEqual(partition, Partition([0, 1, -1]))

    def test_what_it_tells_is_new_each_time(self):
        partition = Partition([0, 1, 0, -1])
        groups = partition.groups()
        groups[0].append(9)
        groups.append([8])
        self.assertEqual(partition.groups(), [[0, 2], [1]])
        gone = partition.gone()
        gone.clear()
        self.assertEqual(partition.gone(), [3])

    def test_what_was_passed_can_be_changed_afterwards(self):
        classes = [0, 1, 0]
        partition = Partition(classes)
        classes[1] = 0
        classes.append(5)
        self.assertEqual(partition, Partition([0, 1, 0]))
        order = [2, 1, 0]
        renamed = partition.renamed(order)
        order.clear()
        self.assertEqual(renamed, Partition([0, 1, 0]))

    def test_a_call_that_is_repeated_gives_the_same(self):
        for classes in ALL:
            partition = Partition(classes)
            self.assertEqual(partition.fresh(0), partition.fresh(0))
            self.assertEqual(partition.groups(), partition.groups())


class AllPartitions(Case):
    def test_how_many(self):
        for many in range(1, 9):
            self.assertEqual(count_of(many), COUNTS[many - 1])
            self.assertIs(count_of(many).__class__, int)
            self.assertEqual(len(list(all_partitions(many))), COUNTS[many - 1])

    def test_ascending_none_twice_none_gone(self):
        for many in range(1, 9):
            found = [partition.classes for partition in all_partitions(many)]
            self.assertEqual(found, sorted(set(found)))
            for classes in found:
                self.assertEqual(len(classes), many)
                self.assertNotIn(-1, classes)
            self.assertEqual(found[0], (0,) * many)
            self.assertEqual(found[-1], tuple(range(many)))

    def test_just_these(self):
        self.assertEqual(
            [partition.classes for partition in all_partitions(3)],
            [(0, 0, 0), (0, 0, 1), (0, 1, 0), (0, 1, 1), (0, 1, 2)],
        )
        for many in (1, 2, 3, 4, 5):
            expected = [Partition(classes) for classes in classes_of(many) if -1 not in classes]
            self.assertEqual(list(all_partitions(many)), expected)

    def test_wrong_numbers(self):
        for value in NO_MANY:
            self.no_holder(value, count_of, value)
            self.no_holder(value, lambda many: next(iter(all_partitions(many))), value)
            self.no_holder(value, lambda many: list(all_partitions(many)), value)

    def test_two_generators_by_turns(self):
        one, other = all_partitions(4), all_partitions(3)
        turns = list(itertools.zip_longest(one, other))
        self.assertEqual([first for first, _ in turns], list(all_partitions(4)))
        self.assertEqual([second for _, second in turns if second is not None], list(all_partitions(3)))
        same = [all_partitions(5), all_partitions(5)]
        for first, second in zip(*same):
            self.assertEqual(first, second)

    def test_it_is_an_iterator_that_ends(self):
        steps = all_partitions(1)
        self.assertIs(iter(steps), steps)
        self.assertEqual(list(steps), [Partition([0])])
        self.assertEqual(list(steps), [])


if __name__ == "__main__":
    unittest.main()
