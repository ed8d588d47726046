"""What the document promises of all functions at once: any values, by position and by name, and nothing is changed."""

import importlib
import itertools
import random
import unittest

from ownpartners import errors
from ownpartners.desks import Desk
from tests.cases import DESK, JUNK, PAIRS, RING, TETRA, BookCase, plain
from tests.test_interface import DESK as METHODS
from tests.test_interface import INTERFACE
from tests.test_own import OCTAD

SIX = ("two", 6, ((1, 1, 0, 0, 1, 1), (0, 0, 1, 1, 1, 1)))
CHANGE = ((1, 0, 2, 3), (1, 2, 1, 1))

# For each function arguments with which it returns something.
RIGHT = {
    "size_of": ("ring",), "units_of": ("ring",), "sum_of": ("four", 2, 3), "product_of": ("four", 2, 3),
    "turned_mark": ("four", 2), "inverse_of": ("four", 3), "is_row": ("two", (1, 0)), "added": ("three", (1, 2), (2, 2)),
    "meeting": ("ring", (1, 2), (3, 0)), "multiple": ("four", 2, (1, 3)), "weight_of": ("two", (1, 0)), "lee_weight": ((1, 2),),
    "euclid_weight": ((1, 2),), "is_book": (RING,), "book_of": ("ring", 2, ((1, 2), (3, 3))), "whole_book": ("two", 3),
    "nought_book": ("two", 3), "how_many": (RING,), "rows_of": (RING,), "has_row": (RING, (1, 1, 1, 1)), "is_within": (TETRA, TETRA),
    "joined": (TETRA, TETRA), "shared": (RING, RING), "partner_of": (RING,), "beside": (PAIRS, OCTAD), "thinned": (TETRA, (1,)),
    "shortened": (TETRA, (1,)), "text_of": (RING,), "read_book": ("book ring 2\n21\n02",), "counts_of": (RING,),
    "least_weight": (RING,), "split_counts": (TETRA, (0, 2)), "lee_counts": (RING,), "euclid_counts": (RING,),
    "mark_counts": (RING,), "column_of": ("two", 3, 1), "partner_counts": ("two", 3, (1, 0, 0, 1)),
    "partner_lee_counts": (1, (1, 0, 1)), "partner_split": ("two", ((1, 0), (0, 1))), "is_change": ("three", 4, CHANGE),
    "both_changes": ("three", CHANGE, CHANGE), "change_undone": ("three", CHANGE), "changes_number": ("three", 4),
    "led_row": ("three", CHANGE, (1, 0, 2, 2)), "led": (TETRA, CHANGE), "are_alike": (TETRA, TETRA), "judge_alike": (TETRA, TETRA),
    "alike_holds": (TETRA, TETRA, ("cases", "clash")), "images_of": (TETRA,), "likeness_number": (TETRA,),
    "judge_chain": (TETRA,), "chain_holds": (PAIRS, ()), "is_likeness": (TETRA, CHANGE), "is_nought": (RING,),
    "is_own": (RING,), "is_fourfold": (OCTAD,), "judge_nought": (RING,), "nought_holds": (RING, ("nought",)), "judge_own": (RING,),
    "own_holds": (RING, ("own",)), "judge_fourfold": (OCTAD,), "fourfold_holds": (OCTAD, ("fourfold",)), "has_own": ("two", 4),
    "greatest_dimension": ("three", 6), "grown": (TETRA,), "own_through": (RING,), "fourfold_through": (OCTAD,),
    "all_through": (PAIRS, 4), "own_number": ("two", 8), "through_number": (PAIRS,), "fourfold_number": (OCTAD,),
    "ring_number": (OCTAD,), "neighbour_by": (PAIRS, (1, 0, 1, 0)), "neighbours_of": (PAIRS,), "fourfold_neighbours_of": (OCTAD,),
    "are_neighbours": (PAIRS, PAIRS), "steps_between": (PAIRS, PAIRS), "ways_number": (PAIRS, PAIRS), "way_between": (PAIRS, PAIRS),
    "way_holds": (PAIRS, PAIRS, (PAIRS,)), "neighbour_number": ("two", 4), "are_on_one_side": (TETRA, TETRA),
    "told_products": ("two", 4), "judge_counts": ("two", 2, (1, 0, 1)), "counts_hold": ("two", 2, (1, 0, 1), ("sum", (1,))),
    "counts_from": ("two", 4, (1,)), "least_bound": ("two", 4), "extreme_counts": ("two", 4), "judge_bar": ("two", 2, (1, 0, 1)),
    "bar_holds": ("two", 2, (0, 0, 0), ("first",)), "shadow_of": (PAIRS,), "shadow_counts": (PAIRS,),
    "in_shadow": (PAIRS, (1, 0, 1, 0)), "shadow_sums": (2, (1, 0, 1)), "whole_sum": ("two", 4), "whole_list": ("two", 4),
    "judge_list": ("two", 4, (PAIRS,)), "list_holds": ("two", 4, (PAIRS,), ("whole", (8,))), "share_sum": ((PAIRS, TETRA),),
    "parts_of": (RING,), "part_books": (PAIRS,), "is_one_piece": (RING,), "inner_book": (PAIRS, (0, 1)),
    "judge_loose": (PAIRS, (0, 2)), "loose_holds": (PAIRS, (0, 2), ("held", (1, 1, 0, 0))), "short_book": (SIX,),
    "short_parts": (SIX,), "glue_number": (SIX,), "pairs_of": (SIX, (0, 1, 2, 3, 4, 5)), "gray_row": ((0, 1, 2, 3),),
    "row_pictured": ((1, 0, 1, 1),), "gray_rows": (RING,), "judge_gray": (RING,), "gray_holds": (RING, ("broken", (1,), (1,))),
    "residue": (RING,), "torsion": (RING,), "own_above": (OCTAD,), "owns_above": (SIX,), "is_point": (PAIRS, (1, -1, 2, 0)),
    "norm": (PAIRS, (1, -1, 2, 0)), "point_number": (PAIRS, 4), "points_of": (PAIRS, 4), "point_numbers": (PAIRS, 4),
    "least_norm": (PAIRS,), "judge_meetings": (PAIRS, (1, 1, 0, 0)), "meetings_hold": (PAIRS, (1, 0, 0, 0), ("point", (1, 1, 0, 0))),
    "judge_norms": (PAIRS, 4), "norms_hold": (PAIRS, 4, ("point", (1, 1, 0, 0))), "blocks_of": (SIX, 4), "judge_blocks": (SIX, 4, 1),
    "blocks_hold": (SIX, 4, 1, ("alike", 2)), "triangle": (SIX, 4, 1), "told_number": (SIX,), "rest_counts": (RING,),
    "farthest": (RING,), "weights_of_partner": (RING,), "is_tight": (RING,), "depth": (RING, (1, 0, 0, 0)),
    "nearest": (RING, (1, 0, 0, 0)), "are_one_rest": (RING, (1, 0, 0, 0), (0, 1, 1, 1)), "judge_far": (RING, 1),
    "far_holds": (RING, 1, ("far", (1, 0, 0, 0))), "read_desk": ("book two 2\n11\nown",),
}

# Right arguments of the methods of a desk with the book PAIRS and the claim ("own",).
METHODS_RIGHT = {
    "book": (), "claims": (), "text": (), "undoable": (), "redoable": (), "copied": (), "is_same": (DESK,), "lead": (((1, 0, 2, 3), (1,) * 4),),
    "put": ((1, 1, 0, 0),), "neighbour": ((1, 0, 1, 0),), "turn_round": (), "lay_beside": (PAIRS,), "thin": ((),), "shorten": ((),),
    "claim": (("nought",),), "release": (("own",),),
}

# Whole numbers from 0 on that are far beyond the limits where any such number is right.
UNBOUNDED = ("m", "most")


def outcome(function, arguments, named):
    """What a call comes to: a result, or an error with what it bears, so that two calls can be compared."""
    try:
        return ("result", plain(function(*arguments, **named)))
    except errors.BookError as error:
        return (type(error).__name__, plain(list(vars(error).values())))


def functions():
    """The quadruples (name, function, names of the parameters, right arguments) of all functions of the interface."""
    for file, listed in INTERFACE.items():
        module = importlib.import_module(f"ownpartners.{file}")
        for name, parameters in listed.items():
            yield name, getattr(module, name), [word.split("=")[0] for word in parameters.split()], RIGHT[name]


class AnyValue(BookCase):
    def check_call(self, function, names, values):
        """Two calls, the second one by name, come to the same, raise no other errors, and change no argument."""
        before = plain(values)
        by_place = [(name, value) for name, value in zip(names, values) if name[0] != "*"]
        by_name = {name[1:]: value for name, value in zip(names, values) if name[0] == "*"}
        first = outcome(function, [value for _, value in by_place], by_name)
        again = outcome(function, [], {**by_name, **dict(by_place[::-1])})
        self.assertEqual(first, again)
        self.assertEqual(plain(values), before)
        return first

    def test_right_arguments(self):
        for name, function, names, right in functions():
            with self.subTest(name):
                self.assertEqual(len(right), len(names))
                word, result = self.check_call(function, names, right)
                self.assertEqual(word, "result")
                if name.startswith(("is_", "are_", "in_", "has_")) or name.endswith(("_holds", "_hold")):
                    self.assertIs(type(result), bool)

    def values_for(self, name):
        unbounded = name in UNBOUNDED
        return [value for value in JUNK if not (unbounded and isinstance(value, int) and value > 99)]

    def test_one_argument_of_any_value(self):
        for name, function, names, right in functions():
            for at, word in enumerate(names):
                for value in self.values_for(word):
                    self.check_call(function, names, right[:at] + (value,) + right[at + 1:])

    def test_several_arguments_of_any_value(self):
        for name, function, names, right in functions():
            if len(names) < 2:
                continue
            chance = random.Random(name)
            for _ in range(60):
                values = tuple(chance.choice(self.values_for(word)) if chance.random() < 0.6 else value
                               for word, value in zip(names, right))
                self.check_call(function, names, values)

    def test_the_errors_of_bad_books_and_kinds_come_first(self):
        for name, function, names, right in functions():
            if names[0] not in ("kind", "book", "one") or name in ("added", "meeting"):
                continue
            error = errors.BadKind if names[0] == "kind" else errors.BadBook
            for value in (None, ["first"], "Two", DESK, ("two", 2, ((1, 0), (1, 0))), True):
                rest = [["rest"]] * (len(names) - 1)
                named = {word.strip("*"): one for word, one in zip(names[1:], rest)}
                self.assert_bears(error, value, function, value, **named)

    def test_methods(self):
        self.assertEqual(set(METHODS_RIGHT) | {"__init__", "undo", "redo"}, set(METHODS))
        for name, right in METHODS_RIGHT.items():
            names = METHODS[name].split()
            for value in (JUNK if names else (None,)):
                desk, other = Desk(PAIRS), Desk(PAIRS)
                for one in (desk, other):
                    one.claim(("own",))
                before = plain(desk)
                first = outcome(getattr(desk, name), [value] if names else [], {})
                again = outcome(getattr(other, name), [], {word: value for word in names})
                self.assertEqual((first, plain(desk)), (again, plain(other)))
                if first[0] != "result":
                    self.assertEqual(plain(desk), before)
            desk = Desk(PAIRS)
            desk.claim(("own",))
            self.assertEqual(outcome(getattr(desk, name), right, {})[0], "result", name)

    def test_results_are_arguments(self):
        pairs = (("judge_nought", "nought_holds"), ("judge_own", "own_holds"), ("judge_chain", "chain_holds"), ("judge_gray", "gray_holds"))
        told = {name: function for name, function, _, _ in functions()}
        for judge, holds in pairs:
            for book in (RING, ("ring", 2, ((1, 1),)), ("ring", 1, ()), ("ring", 2, ((2, 1), (0, 2)))):
                self.assert_is_bool(True, told[holds](book, told[judge](book)))
        for (one, _), (_, other) in itertools.permutations(pairs, 2):
            self.assertIs(type(told[other](RING, told[one](("ring", 4, ((1, 1, 0, 0),))))), bool)


if __name__ == "__main__":
    unittest.main()
