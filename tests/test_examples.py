"""The examples of the document, as they stand there."""

import unittest

from ownpartners.errors import BookError

EXAMPLES = {
    "marks and rows": '''
>>> from ownpartners.marks import inverse_of, product_of, size_of, sum_of, turned_mark, units_of
>>> [size_of("ring"), units_of("ring"), units_of("three"), sum_of("four", 2, 3), sum_of("ring", 2, 3), product_of("four", 2, 2), product_of("ring", 2, 2), turned_mark("four", 2), turned_mark("ring", 3), inverse_of("four", 2), inverse_of("three", 2)]
[4, (1, 3), (1, 2), 1, 1, 3, 0, 3, 3, 3, 2]
>>> from ownpartners.rows import added, euclid_weight, lee_weight, meeting, multiple, weight_of
>>> [added("four", (1, 2, 3), (1, 1, 1)), meeting("four", (1, 2), (2, 1)), meeting("four", (2, 1), (1, 2)), meeting("ring", (1, 2, 3), (1, 1, 2)), multiple("four", 2, (1, 2, 3)), weight_of("two", (1, 0, 1)), lee_weight((1, 2, 3, 0)), euclid_weight((1, 2, 3, 0))]
[(0, 3, 2), 1, 1, 1, (2, 3, 1), 2, 4, 6]
>>> meeting("three", (1, 2), (1, 0, 0))
raises OtherLength(thing=(1, 0, 0))
''',
    "books": '''
>>> from ownpartners.books import book_of, has_row, how_many, is_book, is_within, nought_book, rows_of, whole_book
>>> TETRA = ("three", 4, ((1, 0, 1, 1), (0, 1, 1, 2)))
>>> RING = ("ring", 4, ((1, 1, 1, 1), (0, 2, 0, 2), (0, 0, 2, 2)))
>>> [is_book(TETRA), is_book(RING), how_many(TETRA), how_many(RING), book_of("three", 4, ((1, 1, 2, 0), (0, 2, 2, 1))) == TETRA, book_of("ring", 2, ((2, 1), (1, 3))), is_book(("two", 2, ((1, 1), (0, 1))))]
[True, True, 9, 16, True, ('ring', 2, ((1, 0), (0, 1))), False]
>>> [rows_of(("ring", 2, ((2, 1), (0, 2)))), has_row(RING, (3, 1, 1, 3)), has_row(RING, (3, 1, 3, 3)), is_within(nought_book("two", 3), whole_book("two", 3)), whole_book("ring", 2)]
[((0, 0), (0, 2), (2, 1), (2, 3)), True, False, True, ('ring', 2, ((1, 0), (0, 1)))]
>>> is_book(("ring", 2, ((2, 1),)))
False
''',
    "combining": '''
>>> from ownpartners.combining import beside, joined, partner_of, shared, shortened, thinned
>>> TETRA = ("three", 4, ((1, 0, 1, 1), (0, 1, 1, 2)))
>>> RING = ("ring", 4, ((1, 1, 1, 1), (0, 2, 0, 2), (0, 0, 2, 2)))
>>> [partner_of(TETRA) == TETRA, partner_of(RING) == RING, partner_of(("two", 3, ((1, 1, 1),))), partner_of(("ring", 2, ((2, 1), (0, 2)))), shared(TETRA, ("three", 4, ((1, 0, 1, 1),)))]
[True, True, ('two', 3, ((1, 0, 1), (0, 1, 1))), ('ring', 2, ((1, 2),)), ('three', 4, ((1, 0, 1, 1),))]
>>> [thinned(TETRA, (3,)), shortened(TETRA, (3,)), beside(("two", 2, ((1, 1),)), ("two", 1, ())), joined(("two", 2, ((1, 1),)), ("two", 2, ((1, 0),)))]
[('three', 3, ((1, 0, 1), (0, 1, 1))), ('three', 3, ((1, 1, 2),)), ('two', 3, ((1, 1, 0),)), ('two', 2, ((1, 0), (0, 1)))]
''',
    "texts": '''
>>> from ownpartners.texts import read_book, text_of
>>> [text_of(("three", 4, ((1, 0, 1, 1), (0, 1, 1, 2)))), read_book("book ring 2\\n21\\n02"), read_book("book four 1")]
['book three 4\\n1011\\n0112', ('ring', 2, ((2, 1), (0, 2))), ('four', 1, ())]
>>> read_book("book ring 2\\n21")
raises BadText(at=3)
>>> read_book("book two 2\\n11\\n01")
raises BadText(at=3)
''',
    "counts": '''
>>> from ownpartners.counts import counts_of, euclid_counts, least_weight, lee_counts, mark_counts, split_counts
>>> TETRA = ("three", 4, ((1, 0, 1, 1), (0, 1, 1, 2)))
>>> RING = ("ring", 4, ((1, 1, 1, 1), (0, 2, 0, 2), (0, 0, 2, 2)))
>>> [counts_of(TETRA), counts_of(RING), least_weight(TETRA), least_weight(("two", 3, ())), split_counts(TETRA, (0, 1))]
[(1, 0, 0, 8, 0), (1, 0, 6, 0, 9), 3, None, ((1, 0, 0), (0, 0, 4), (0, 4, 0))]
>>> [lee_counts(RING), euclid_counts(RING), mark_counts(RING)]
[(1, 0, 0, 0, 14, 0, 0, 0, 1), (1, 0, 0, 0, 8, 0, 0, 0, 6, 0, 0, 0, 0, 0, 0, 0, 1), ((0, 0, 4, 1), (0, 4, 0, 8), (2, 0, 2, 6), (4, 0, 0, 1))]
''',
    "partnercounts": '''
>>> from ownpartners.partnercounts import column_of, partner_counts, partner_lee_counts, partner_split
>>> [column_of("two", 3, 1), column_of("three", 2, 2), partner_counts("two", 3, (1, 0, 0, 1)), partner_counts("three", 4, (1, 0, 0, 8, 0)), partner_lee_counts(1, (1, 0, 1)), partner_split("two", ((1, 0), (0, 1)))]
[(1, 1, -1, -1), (1, -2, 1), (1, 0, 3, 0), (1, 0, 0, 8, 0), (1, 0, 1), ((1, 0), (0, 1))]
>>> partner_counts("two", 3, (1, 1, 0, 0))
(1, 2, 1, 0)
>>> partner_counts("two", 3, (1, 0, 0, 2))
raises NotWhole(at=1)
''',
    "changes": '''
>>> from ownpartners.changes import both_changes, change_undone, changes_number, led, led_row
>>> TETRA = ("three", 4, ((1, 0, 1, 1), (0, 1, 1, 2)))
>>> [led_row("three", ((1, 2, 0), (1, 2, 1)), (1, 1, 0)), led(("two", 3, ((1, 1, 0),)), ((2, 1, 0), (1, 1, 1))), both_changes("three", ((1, 0), (2, 1)), ((1, 0), (1, 2))), change_undone("four", ((1, 2, 0), (1, 2, 3))), changes_number("three", 4)]
[(0, 1, 2), ('two', 3, ((0, 1, 1),)), ((0, 1), (1, 1)), ((2, 0, 1), (2, 1, 3)), 384]
''',
    "likeness": '''
>>> from ownpartners.likeness import alike_holds, are_alike, judge_alike
>>> [are_alike(("two", 3, ((1, 1, 0),)), ("two", 3, ((0, 1, 1),))), judge_alike(("two", 2, ((1, 1),)), ("two", 2, ((1, 0),))), alike_holds(("ring", 2, ((1, 1),)), ("ring", 2, ((1, 3),)), ("change", ((0, 1), (1, 3)))), are_alike(("ring", 2, ((1, 1),)), ("ring", 2, ((1, 2),)))]
[True, ('cases', 'clash'), True, False]
''',
    "ownlikeness": '''
>>> TETRA = ("three", 4, ((1, 0, 1, 1), (0, 1, 1, 2)))
>>> from ownpartners.ownlikeness import chain_holds, images_of, is_likeness, judge_chain, likeness_number
>>> [likeness_number(TETRA), likeness_number(("two", 4, ((1, 1, 0, 0), (0, 0, 1, 1)))), images_of(("two", 3, ((1, 1, 0),))), is_likeness(TETRA, ((1, 0, 2, 3), (1, 1, 1, 2)))]
[48, 8, (((0, 1), (1, 1)), ((1, 1),), ((2, 1),)), True]
>>> chain_holds(("two", 2, ((1, 0),)), ((("change", ((0, 1), (1, 1))), ("cases", "clash")), (("change", ((0, 1), (1, 1))),)))
True
''',
    "own": '''
>>> from ownpartners.own import judge_nought, judge_own, is_fourfold, own_holds, has_own
>>> PAIRS = ("two", 4, ((1, 1, 0, 0), (0, 0, 1, 1)))
>>> FOURS = ("three", 4, ((1, 0, 1, 1), (0, 1, 1, 2)))
>>> [judge_own(PAIRS), judge_own(FOURS), is_fourfold(PAIRS), judge_nought(("two", 2, ((1, 0),)))]
[('own',), ('own',), False, ('meet', (1, 0), (1, 0))]
>>> [own_holds(("two", 4, ((1, 1, 1, 1),)), ("outside", (1, 1, 0, 0))), has_own("three", 6), has_own("ring", 3)]
[True, False, True]
''',
    "ownnumbers": '''
>>> PAIRS = ("two", 4, ((1, 1, 0, 0), (0, 0, 1, 1)))
>>> from ownpartners.ownnumbers import fourfold_number, own_number, ring_number, through_number
>>> [own_number("two", 8), own_number("fourfold", 8), own_number("three", 4), own_number("four", 4), own_number("three", 5)]
[135, 30, 8, 27, 0]
>>> [through_number(("two", 6, ((1, 1, 1, 1, 0, 0),))), fourfold_number(("two", 8, ())), ring_number(("two", 4, ((1, 1, 1, 1),))), ring_number(PAIRS)]
[3, 30, 2, 0]
''',
    "growing": '''
>>> from ownpartners.growing import all_through, greatest_dimension, own_through
>>> all_through(("two", 4, ()))
(('two', 4, ((1, 0, 0, 1), (0, 1, 1, 0))), ('two', 4, ((1, 0, 1, 0), (0, 1, 0, 1))), ('two', 4, ((1, 1, 0, 0), (0, 0, 1, 1))))
>>> [greatest_dimension("three", 6), own_through(("four", 2, ((1, 2),)))]
[2, ('four', 2, ((1, 2),))]
''',
    "neighbours": '''
>>> from ownpartners.neighbours import neighbour_by, neighbours_of, neighbour_number, steps_between, ways_number
>>> PAIRS = ("two", 4, ((1, 1, 0, 0), (0, 0, 1, 1)))
>>> neighbour_by(PAIRS, (1, 0, 1, 0))
('two', 4, ((1, 0, 1, 0), (0, 1, 0, 1)))
>>> neighbours_of(("four", 2, ((1, 1),)))
(('four', 2, ((1, 2),)), ('four', 2, ((1, 3),)))
>>> [neighbour_number("two", 8), neighbour_number("fourfold", 8), neighbour_number("three", 4), neighbour_number("four", 6), neighbour_number("three", 6)]
[14, 7, 4, 42, 0]
>>> FOURS, OTHERS = ("three", 4, ((1, 0, 1, 1), (0, 1, 1, 2))), ("three", 4, ((1, 0, 1, 2), (0, 1, 2, 2)))
>>> [steps_between(FOURS, OTHERS), ways_number(FOURS, OTHERS), steps_between(PAIRS, PAIRS), ways_number(PAIRS, PAIRS)]
[2, 4, 0, 1]
>>> from ownpartners.neighbours import are_on_one_side, way_holds
>>> [are_on_one_side(FOURS, OTHERS), way_holds(FOURS, OTHERS, (FOURS, OTHERS)), way_holds(PAIRS, PAIRS, (PAIRS,))]
[True, False, True]
''',
    "gleason": '''
>>> from ownpartners.gleason import told_products, judge_counts, counts_from, extreme_counts, least_bound, bar_holds
>>> told_products("two", 8)
((1, 0, 4, 0, 6, 0, 4, 0, 1), (0, 0, 1, 0, -2, 0, 1, 0, 0))
>>> [judge_counts("two", 8, (1, 0, 0, 0, 14, 0, 0, 0, 1)), judge_counts("fourfold", 8, (1, 0, 0, 0, 14, 0, 0, 0, 1)), judge_counts("three", 4, (1, 0, 0, 6, 0))]
[('sum', (1, -4)), ('sum', (1,)), ('unlike', 3, 8)]
>>> [least_bound("four", 6), extreme_counts("four", 6), counts_from("two", 4, (1,)), extreme_counts("three", 4)]
[4, (1, 0, 0, 0, 45, 0, 18), (1, 0, 2, 0, 1), (1, 0, 0, 8, 0)]
>>> extreme_counts("two", 16)
(1, 0, 0, 0, 0, 0, 112, 0, 30, 0, 112, 0, 0, 0, 0, 0, 1)
>>> [bar_holds("two", 16, extreme_counts("two", 16), ("shadow", 0)), bar_holds("two", 2, (1, 0, 1), ("below", 1))]
[True, False]
''',
    "shadows": '''
>>> from ownpartners.shadows import shadow_of, shadow_counts, shadow_sums, in_shadow
>>> [shadow_of(("two", 2, ((1, 1),))), shadow_counts(("two", 4, ((1, 1, 0, 0), (0, 0, 1, 1)))), shadow_sums(2, (1, 0, 1))]
[((0, 1), (1, 0)), (0, 0, 4, 0, 0), (0, 4, 0)]
''',
    "lists": '''
>>> from ownpartners.lists import judge_list, list_holds, share_sum, whole_list, whole_sum
>>> PAIRS = ("two", 4, ((1, 1, 0, 0), (0, 0, 1, 1)))
>>> TETRA = ("three", 4, ((1, 0, 1, 1), (0, 1, 1, 2)))
>>> OCTAD = ("two", 8, ((1, 0, 0, 0, 0, 1, 1, 1), (0, 1, 0, 0, 1, 0, 1, 1), (0, 0, 1, 0, 1, 1, 0, 1), (0, 0, 0, 1, 1, 1, 1, 0)))
>>> [whole_sum("two", 4), whole_sum("three", 4), whole_sum("two", 8), share_sum((PAIRS,)), share_sum(()), share_sum((OCTAD,)), len(whole_list("two", 8))]
[(1, 8), (1, 48), (3, 896), (1, 8), (0, 1), (1, 1344), 2]
>>> [judge_list("two", 4, (PAIRS,)), judge_list("two", 2, ()), judge_list("three", 4, (TETRA,)), judge_list("fourfold", 8, (OCTAD,)), judge_list("two", 8, (OCTAD,))[0]]
[('whole', (8,)), ('lacks', ('two', 2, ((1, 1),))), ('whole', (48,)), ('whole', (1344,)), 'lacks']
>>> [list_holds("two", 4, (PAIRS, PAIRS), ("twice", 0, 1, ((0, 1, 2, 3), (1, 1, 1, 1)))), list_holds("two", 4, (PAIRS, PAIRS), ("whole", (8, 8)))]
[True, False]
>>> whole_sum("three", 6)
raises NoOwn
''',
    "pieces": '''
>>> from ownpartners.pieces import inner_book, is_one_piece, judge_loose, loose_holds, part_books, parts_of
>>> TWINS = ('two', 4, ((1, 1, 0, 0), (0, 0, 1, 1)))
>>> EIGHT = ('two', 8, ((1, 0, 0, 0, 0, 1, 1, 1), (0, 1, 0, 0, 1, 0, 1, 1), (0, 0, 1, 0, 1, 1, 0, 1), (0, 0, 0, 1, 1, 1, 1, 0)))
>>> [parts_of(TWINS), part_books(TWINS)[1], is_one_piece(EIGHT), parts_of(('ring', 2, ((1, 1), (0, 2)))), judge_loose(TWINS, (2, 3)), loose_holds(TWINS, (0, 2), ('held', (1, 1, 1, 1))), inner_book(TWINS, (0, 2, 3)), parts_of(('three', 2, ()))]
[((0, 1), (2, 3)), ((2, 3), ('two', 2, ((1, 1),))), True, ((0, 1),), ('loose', ('two', 2, ((1, 1),)), ('two', 2, ((1, 1),))), True, ('two', 3, ((0, 1, 1),)), ((0,), (1,))]
''',
    "shortrows": '''
>>> from ownpartners.shortrows import glue_number, pairs_of, short_book, short_parts
>>> SIX = ('two', 6, ((1, 1, 0, 0, 1, 1), (0, 0, 1, 1, 1, 1)))
>>> EIGHT = ('two', 8, ((1, 0, 0, 0, 0, 1, 1, 1), (0, 1, 0, 0, 1, 0, 1, 1), (0, 0, 1, 0, 1, 1, 0, 1), (0, 0, 0, 1, 1, 1, 1, 0)))
>>> [short_parts(SIX), pairs_of(SIX, (0, 1, 2, 3, 4, 5)), short_parts(EIGHT), short_parts(('two', 6, ((1, 1, 1, 1, 0, 0),))), glue_number(EIGHT), short_book(('two', 6, ((1, 1, 1, 1, 1, 1),)))]
[(('d6', (0, 1, 2, 3, 4, 5)),), ((0, 1), (2, 3), (4, 5)), (('e8', (0, 1, 2, 3, 4, 5, 6, 7)),), (('d4', (0, 1, 2, 3)), ('single', (4,)), ('single', (5,))), 1, ('two', 6, ())]
''',
    "gray": '''
>>> from ownpartners.gray import gray_holds, gray_row, gray_rows, judge_gray, row_pictured
>>> BOOK = ('ring', 2, ((1, 1), (0, 2)))
>>> OCTAD = ('ring', 8, ((1, 0, 0, 0, 3, 1, 2, 1), (0, 1, 0, 0, 1, 2, 3, 1), (0, 0, 1, 0, 3, 3, 3, 2), (0, 0, 0, 1, 2, 3, 1, 1)))
>>> [gray_row((0, 1, 2, 3)), row_pictured((1, 0, 1, 1)), gray_rows(('ring', 1, ((2,),))), judge_gray(BOOK), judge_gray(OCTAD)[0], gray_holds(OCTAD, ('broken', (1, 0, 0, 0, 3, 1, 2, 1), (0, 1, 0, 0, 1, 2, 3, 1)))]
[(0, 0, 0, 1, 1, 1, 1, 0), (3, 2), ((0, 0), (1, 1)), ('closed', ('two', 4, ((1, 0, 0, 1), (0, 1, 0, 1), (0, 0, 1, 1)))), 'broken', True]
''',
    "residues": '''
>>> from ownpartners.residues import own_above, owns_above, residue, torsion
>>> BOOK = ('ring', 2, ((1, 1), (0, 2)))
>>> ONES = ('two', 4, ((1, 1, 1, 1),))
>>> [residue(BOOK), torsion(BOOK), owns_above(ONES), own_above(('two', 1, ()))]
[('two', 2, ((1, 1),)), ('two', 2, ((1, 0), (0, 1))), (('ring', 4, ((1, 1, 1, 1), (0, 2, 0, 2), (0, 0, 2, 2))), ('ring', 4, ((1, 1, 1, 3), (0, 2, 0, 2), (0, 0, 2, 2)))), ('ring', 1, ((2,),))]
''',
    "points": '''
>>> from ownpartners.points import is_point, judge_meetings, judge_norms, least_norm, meetings_hold, norm, norms_hold, point_numbers, points_of
>>> EIGHT = ('two', 8, ((1, 0, 0, 0, 0, 1, 1, 1), (0, 1, 0, 0, 1, 0, 1, 1), (0, 0, 1, 0, 1, 1, 0, 1), (0, 0, 0, 1, 1, 1, 1, 0)))
>>> PAIR = ('two', 2, ((1, 1),))
>>> [is_point(PAIR, (3, -1)), norm(PAIR, (3, -1)), points_of(PAIR, 2), point_numbers(PAIR, 4), point_numbers(EIGHT, 8), least_norm(('ring', 1, ((2,),)))]
[True, 10, ((-1, -1), (-1, 1), (1, -1), (1, 1)), (1, 0, 4, 0, 4), (1, 0, 0, 0, 240, 0, 0, 0, 2160), 4]
>>> [judge_meetings(PAIR, (1, 1)), meetings_hold(PAIR, (1, 0), ('point', (3, -1))), judge_norms(EIGHT, 4), norms_hold(PAIR, 4, ('point', (1, 1))), judge_norms(('three', 1, ()), 9)]
[('always',), True, ('always',), True, ('always',)]
''',
    "blocks": '''
>>> from ownpartners.blocks import blocks_hold, blocks_of, judge_blocks, told_number, triangle
>>> SIX = ('two', 6, ((1, 1, 0, 0, 1, 1), (0, 0, 1, 1, 1, 1)))
>>> EIGHT = ('two', 8, ((1, 0, 0, 0, 0, 1, 1, 1), (0, 1, 0, 0, 1, 0, 1, 1), (0, 0, 1, 0, 1, 1, 0, 1), (0, 0, 0, 1, 1, 1, 1, 0)))
>>> [blocks_of(SIX, 4), judge_blocks(SIX, 4, 1), blocks_hold(SIX, 4, 2, ('unlike', (0, 1), (0, 2))), judge_blocks(EIGHT, 4, 3), told_number(EIGHT), triangle(EIGHT, 4, 2), judge_blocks(EIGHT, 3, 2)]
[((0, 1, 2, 3), (0, 1, 4, 5), (2, 3, 4, 5)), ('alike', 2), True, ('alike', 1), 3, ((14,), (7, 7), (3, 4, 3)), ('alike', 0)]
''',
    "rests": '''
>>> from ownpartners.rests import depth, far_holds, farthest, is_tight, judge_far, nearest, rest_counts
>>> THREE = ('two', 3, ((1, 1, 1),))
>>> [rest_counts(THREE), farthest(THREE), is_tight(THREE), nearest(THREE, (1, 1, 0)), depth(THREE, (1, 1, 0)), far_holds(THREE, 0, ('far', (1, 0, 0))), rest_counts(('ring', 1, ((2,),))), nearest(('ring', 1, ((2,),)), (1,))]
[(1, 3, 0, 0), 1, True, ((1, 1, 1),), 1, True, (1, 1), ((0,), (2,))]
''',
    "desks": '''
>>> from ownpartners.desks import Desk, read_desk
>>> desk = Desk(("two", 4, ((1, 1, 0, 0), (0, 0, 1, 1))))
>>> [desk.claim(("own",)), desk.neighbour((1, 0, 1, 0)), desk.book(), desk.undoable(), desk.text()]
[None, None, ('two', 4, ((1, 0, 1, 0), (0, 1, 0, 1))), 2, 'book two 4\\n1010\\n0101\\nown']
>>> [desk.lay_beside(("two", 2, ((1, 1),))), desk.book(), desk.undo(), desk.redoable(), desk.claims()]
[None, ('two', 6, ((1, 0, 1, 0, 0, 0), (0, 1, 0, 1, 0, 0), (0, 0, 0, 0, 1, 1))), None, 1, (('own',),)]
>>> desk.claim(("least", 3))
raises Unkept(claim=('least', 3))
>>> desk.put((1, 0, 0, 0))
raises Unkept(claim=('own',))
>>> [read_desk("book two 2\\n11\\nown\\nleast 2").claims(), read_desk("book ring 1").book()]
[(('own',), ('least', 2)), ('ring', 1, ())]
>>> read_desk("book two 2\\n11\\nleast 3")
raises BadText(at=3)
''',
}


def told(error):
    """An error as the document writes it."""
    parameters = ", ".join(f"{name}={value!r}" for name, value in vars(error).items())
    return f"raises {type(error).__name__}" + (f"({parameters})" if parameters else "")


def answer(line, names):
    """What a line of an example comes to, as the document writes it; None for an import or an assignment."""
    try:
        code = compile(line, "example", "eval")
    except SyntaxError:
        exec(line, names)
        return None
    try:
        return repr(eval(code, names))
    except BookError as error:
        return told(error)


class Examples(unittest.TestCase):
    def test_examples(self):
        for part, text in EXAMPLES.items():
            names = {}
            last = None
            answers = 0
            for line in text.strip().split("\n"):
                if line.startswith(">>> "):
                    self.assertIsNone(last, f"{part}: no answer told")
                    last = answer(line[4:], names)
                else:
                    with self.subTest(part, due=line):
                        self.assertEqual(last, line)
                    last = None
                    answers += 1
            self.assertIsNone(last)
            self.assertGreaterEqual(answers, 1)


if __name__ == "__main__":
    unittest.main()
