"""That the functions stand under their names, with their parameters, in the files that list them."""

import importlib
import inspect
import unittest

from ownpartners.desks import Desk

INTERFACE = {
    "marks": {
        "size_of": "kind", "units_of": "kind", "sum_of": "kind one other", "product_of": "kind one other",
        "turned_mark": "kind mark", "inverse_of": "kind mark",
    },
    "rows": {
        "is_row": "kind thing", "added": "kind one other", "meeting": "kind one other", "multiple": "kind mark row",
        "weight_of": "kind row", "lee_weight": "row", "euclid_weight": "row",
    },
    "books": {
        "is_book": "thing", "book_of": "kind n rows", "whole_book": "kind n", "nought_book": "kind n",
        "how_many": "book", "rows_of": "book", "has_row": "book thing", "is_within": "one other",
    },
    "combining": {
        "joined": "one other", "shared": "one other", "partner_of": "book", "beside": "one other",
        "thinned": "book places", "shortened": "book places",
    },
    "texts": {"text_of": "book", "read_book": "text"},
    "counts": {
        "counts_of": "book", "least_weight": "book", "split_counts": "book places", "lee_counts": "book",
        "euclid_counts": "book", "mark_counts": "book",
    },
    "partnercounts": {
        "column_of": "kind n weight", "partner_counts": "kind n numbers", "partner_lee_counts": "n numbers",
        "partner_split": "kind numbers",
    },
    "changes": {
        "is_change": "kind n thing", "both_changes": "kind first second", "change_undone": "kind change",
        "changes_number": "kind n", "led_row": "kind change row", "led": "book change",
    },
    "likeness": {"are_alike": "one other", "judge_alike": "one other", "alike_holds": "one other thing"},
    "ownlikeness": {
        "images_of": "book", "likeness_number": "book", "judge_chain": "book", "chain_holds": "book thing",
        "is_likeness": "book thing",
    },
    "own": {
        "is_nought": "thing", "is_own": "thing", "is_fourfold": "thing", "judge_nought": "book",
        "nought_holds": "book thing", "judge_own": "book", "own_holds": "book thing", "judge_fourfold": "book",
        "fourfold_holds": "book thing", "has_own": "family n",
    },
    "ownnumbers": {
        "own_number": "family n", "through_number": "book", "fourfold_number": "book", "ring_number": "book",
    },
    "growing": {
        "greatest_dimension": "kind n", "grown": "book", "own_through": "book", "fourfold_through": "book",
        "all_through": "book *most=256",
    },
    "neighbours": {
        "neighbour_by": "book row", "neighbours_of": "book", "fourfold_neighbours_of": "book",
        "are_neighbours": "one other", "steps_between": "one other", "ways_number": "one other",
        "way_between": "one other", "way_holds": "one other thing", "neighbour_number": "family n",
        "are_on_one_side": "one other",
    },
    "gleason": {
        "told_products": "family n", "judge_counts": "family n numbers", "counts_hold": "family n numbers thing",
        "counts_from": "family n firsts", "least_bound": "family n", "extreme_counts": "family n",
        "judge_bar": "family n numbers", "bar_holds": "family n numbers thing",
    },
    "shadows": {
        "shadow_of": "book", "shadow_counts": "book", "in_shadow": "book thing", "shadow_sums": "n numbers",
    },
    "lists": {
        "whole_sum": "family n", "whole_list": "family n", "judge_list": "family n books",
        "list_holds": "family n books thing", "share_sum": "books",
    },
    "pieces": {
        "parts_of": "book", "part_books": "book", "is_one_piece": "book", "inner_book": "book lot",
        "judge_loose": "book lot", "loose_holds": "book lot thing",
    },
    "shortrows": {"short_book": "book", "short_parts": "book", "glue_number": "book", "pairs_of": "book part"},
    "gray": {
        "gray_row": "row", "row_pictured": "row", "gray_rows": "book", "judge_gray": "book", "gray_holds": "book thing",
    },
    "residues": {"residue": "book", "torsion": "book", "own_above": "book", "owns_above": "book"},
    "points": {
        "is_point": "book thing", "norm": "book point", "point_number": "book m", "points_of": "book m",
        "point_numbers": "book most", "least_norm": "book", "judge_meetings": "book x", "meetings_hold": "book x thing",
        "judge_norms": "book t", "norms_hold": "book t thing",
    },
    "blocks": {
        "blocks_of": "book w", "judge_blocks": "book w t", "blocks_hold": "book w t thing", "triangle": "book w t",
        "told_number": "book",
    },
    "rests": {
        "rest_counts": "book", "farthest": "book", "weights_of_partner": "book", "is_tight": "book", "depth": "book row",
        "nearest": "book row", "are_one_rest": "book one other", "judge_far": "book r", "far_holds": "book r thing",
    },
    "desks": {"read_desk": "text"},
}


DESK = {
    "__init__": "book", "book": "", "claims": "", "text": "", "undoable": "", "redoable": "", "copied": "",
    "is_same": "thing", "lead": "change", "put": "row", "neighbour": "row", "turn_round": "", "lay_beside": "book",
    "thin": "places", "shorten": "places", "claim": "claim", "release": "claim", "undo": "", "redo": "",
}


def written(parameter):
    """A parameter as the table above has it: with a star if it is passed by name alone, and with what it is else."""
    star = {inspect.Parameter.POSITIONAL_OR_KEYWORD: "", inspect.Parameter.KEYWORD_ONLY: "*"}[parameter.kind]
    default = "" if parameter.default is inspect.Parameter.empty else f"={parameter.default!r}"
    return star + parameter.name + default


class Interface(unittest.TestCase):
    def test_functions_and_parameters(self):
        for file, functions in INTERFACE.items():
            module = importlib.import_module(f"ownpartners.{file}")
            for name, parameters in functions.items():
                with self.subTest(file=file, name=name):
                    function = getattr(module, name)
                    self.assertTrue(inspect.isfunction(function))
                    self.assertEqual(function.__module__, module.__name__)
                    found = inspect.signature(function).parameters.values()
                    self.assertEqual([written(parameter) for parameter in found], parameters.split())

    def test_methods_stand_in_the_class_itself(self):
        self.assertEqual((Desk.__module__, Desk.__bases__), ("ownpartners.desks", (object,)))
        for name, parameters in DESK.items():
            with self.subTest(name):
                method = vars(Desk)[name]
                self.assertTrue(inspect.isfunction(method))
                _, *found = inspect.signature(method).parameters.values()
                self.assertEqual([written(parameter) for parameter in found], parameters.split())


if __name__ == "__main__":
    unittest.main()
