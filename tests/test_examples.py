"""The examples of the document, as they stand there, each point behind the ones ahead of it."""

import unittest

from crossnest import (
    alive, alives, board, changes, choices, code, depths, desk, engine, entries, errors, frames, harms,
    inplace, judge, layouts, lots, openings, orders, patterns, profiles, programs, queues, rounds,
    runs, stacks, texts, trees,
)

PROGRAMS = r'''
>>> once = ((((),), (("r",),), (((), ((("make", "x", ()), ("make", "r", ("x",))),)),)),)
>>> top = (((),), (("r",),), (((1,), ((("make", (0, "d"), ()), ("go", 0), ("make", "r", ((0, "u"),))),)),))
>>> leaf = ((), ((("make", "u", ("d",)),),))
>>> node = ((1,), ((("make", (0, "d"), ("d",)), ("go", 0), ("make", "u", ("d", (0, "u")))),))
>>> deep = (top, ((("d",),), (("u",),), (leaf, node)))
>>> pair = ((1, 1), ((("go", 0), ("go", 1), ("go", 0), ("go", 1), ("make", "r", ((0, "u"), (1, "u")))),))
>>> part = ((), ((("make", "a", ()),), (("make", "u", ("a",)),)))
>>> twice = ((((),), (("r",),), (pair,)), (((), ()), ((), ("u",)), (part,)))
>>> is_program(once), is_program(deep), is_clean(twice), is_program((top,)), is_program([once[0]])
(True, True, True, False, False)
>>> early = (((),), (("r",),), (((), ((("make", "r", ("x",)),),)),))
>>> late = (((),), (("r",),), (((), ((("make", "x", ()),),)),))
>>> fault((early,)), fault((late,)), fault(deep)
((0, 0, 0, 0), (0, 0, 0, 1), None)
>>> fruitful((top, ((("d",),), (("u",),), (node,)))), reached(deep), trimmed(deep + (once[0],)) == deep
((), (0, 1), True)
>>> names_of(deep, 1), pairs_of(twice), calls(deep), rings(deep)
(('d', 'u'), ((0, 'r'), (1, 'a'), (1, 'u')), ((0, 1), (1, 1)), (1,))
>>> makers(deep, 1, "d"), readers(deep, 1, "d"), readers(deep, 1, "u")
(((0, 0, 0, 0), (1, 1, 0, 0)), ((1, 0, 0, 0), (1, 1, 0, 0), (1, 1, 0, 2)), ((0, 0, 0, 2), (1, 1, 0, 2)))
>>> makers(deep, 1, "x")
raises NoName(name='x')
>>> trimmed((top, ((("d",),), (("u",),), (node,))))
raises CanNot()
'''

TREES = r'''
>>> is_tree(once, 0, (0, ())), is_tree(deep, 1, (1, ((0, ()),))), is_tree(deep, 0, (0, ()))
(True, True, False)
>>> tree = (0, ((1, ((0, ()),)),))
>>> nodes(tree), depth(tree), paths(tree), at_path(tree, (0, 0)), procedure_of(deep, tree, (0,))
(3, 3, ((), (0,), (0, 0)), (0, ()), 1)
>>> put_at(deep, tree, (0,), (0, ())), trees_of(deep, 0, 3), least_tree(deep, 0), least_by(deep, 1, 1)
((0, ((0, ()),)), [(0, ((0, ()),)), (0, ((1, ((0, ()),)),))], (0, ((0, ()),)), (1, ((0, ()),)))
>>> tree_having(deep, 1, 1), tree_having(twice, 1, 0)
(((0, ((1, ((0, ()),)),)), (0,)), ((0, ((0, ()), (0, ()))), (0,)))
>>> pumped(deep, tree, (0,), (0,), 2), pumped(deep, tree, (0,), (0,), 0)
((0, ((1, ((1, ((0, ()),)),)),)), (0, ((0, ()),)))
>>> at_path(tree, (1,))
raises NoPath(path=(1,))
>>> pumped(deep, tree, (), (0,), 2)
raises Unfit()
>>> put_at(twice, (0, ((0, ()), (0, ()))), (1,), (1, ()))
raises Unfit()
'''

RUNS = r'''
>>> chain, pair = (0, ((1, ((0, ()),)),)), (0, ((0, ()), (0, ())))
>>> events(deep, chain), reads_of(deep, chain, 3), origin_of(deep, chain, 1)
([((), 0, 0), ((0,), 0, 0), ((0, 0), 0, 0), ((0,), 0, 2), ((), 0, 2), ((), 0, 3)], (0, 2), (1, 'd'))
>>> step_of(deep, chain, 3), step_of(deep, chain, 5), uses_of(deep, chain, 0)
(('make', 'u', ('d', (0, 'u'))), ('ask', ('r',)), (1, 3))
>>> row_for(deep, chain, ((1, "d"),))
(('make', 0, 0), ('use', 0, 1), ('make', 1, 1), ('use', 1, 2), ('use', 0, 3))
>>> [value_of(deep, chain, (), (0, "u"), number) for number in (3, 4)], value_of(deep, chain, (0, 0), "d", 6)
([None, 3], 1)
>>> moments(deep, chain)[:3], left_behind(deep, chain, 2), open_calls(deep, chain, 2)
([((),), ((),), ((), (0,))], (((0,), 0, 2), ((), 0, 2), ((), 0, 3)), (((0, 0), 1, 1),))
>>> makes_of(twice, pair, ((1, "a"),)), uses_of(twice, pair, 1), gone_to(twice, pair, (1,))
((0, 1), (3,), 2)
>>> uses_of(deep, chain, 5)
raises NoEvent(number=5)
'''

ALIVE = r'''
>>> [alive_at(deep, chain, number) for number in range(7)], last_moment(deep, chain, 1), passings(deep, 1, 1)
([(), (0,), (0, 1), (0, 2), (3,), (4,), ()], 2, [(('d', True, ()),)])
>>> both_alive(deep, chain, ((1, "d"),)), ends_ahead(deep, chain, ((1, "d"),)), most_alive_in(deep, chain, ((1, "d"),))
(((0, 1),), ((1, 0),), (2, 2))
>>> lent = ((((),), (("r",),), (((1,), ((("make", (0, "x"), ()), ("go", 0), ("make", "r", ((0, "y"),))),)),)), ((("x",),), (("y",),), (((), ((("hand", "y", "x"),),)), ((), ((("make", "y", ()),),)))))
>>> other = (0, ((1, ()),))
>>> alive_at(lent, other, 1), alive_at(lent, other, 2), going_on(lent, other, 1, 0), going_on(lent, other, 2, 0)
((0,), (1,), ((0, ((0, ()),)), 2), None)
>>> passings(lent, 1, 1), passing_of(lent, 1, (0, ()), 1), can_use(lent, 1, 1, ("x",))
([(('x', False, ()),), (('x', False, ('y',)),)], (('x', False, ('y',)),), False)
>>> can_use(lent, 1, 1, ("y",))
raises NoName(name='y')
'''

ENTRIES = r'''
>>> a, d, cross = ((1, "a"),), ((1, "d"),), (("make", 0), ("make", 1), ("use", 0), ("use", 1))
>>> seats(twice), len(entries(twice, a, cross)), is_pattern((("use", 0),))
(((0, 1), (1, 2)), 8, False)
>>> entry_of(twice, a, cross, (1, 2), (0, ()), (((), 0, 0), None), (((), ()), ((), ())))
((0, -1), ((((), ()), ((), ()), (1, 1, 2, 3, 4)), (((), ()), ((), ()), (0, 1, 3, 3, 4))))
>>> crossed = ((0, 0), ((((), ()), ((), ()), (4, 4, 4, 4, 4)),))
>>> matched(twice, cross, crossed), entry_tree(twice, a, cross, (0, 1), crossed), is_closed(twice, a, cross, ())
(4, (0, ((0, ()), (0, ()))), False)
>>> least_moment(twice, a, "region"), least_moment(twice, a, "order"), least_moment(deep, d, "order")
(((0, ((0, ()), (0, ()))), (0, 1, 3)), None, ((0, ((1, ((0, ()),)),)), (0, 1, 3)))
'''

PROFILES = r'''
>>> profiles(twice, ((1, "a"),)), profiles_of(deep, ((1, "d"),), (1, 1), (0, ()))
((((0, 1), (((1, 'a'), 0), ((1, 'a'), 0, 0))), ((1, 2), (((1, 'a'), 0), ((1, 'a'), 0, 1)))), ())
>>> profile_tree(deep, ((1, "d"),), (1, 1), ((1, "d"), 0, 0)), quick_pairs(deep, ((1, "d"),), "stack")
((1, ((0, ()),)), ())
>>> quick_pairs(deep, ((1, "d"),), "cell"), quick_pairs(twice, ((1, "a"),), "stack"), quick_pairs(twice, ((1, "a"),), "queue")
((((1, 'd'), (1, 'd')),), (((1, 'a'), (1, 'a')),), ())
>>> is_quick(deep, ((1, "d"), (1, "u"))), is_quick(lent, ((1, "x"),)), is_quick(lent, ((1, "y"),))
(True, False, True)
'''

PATTERNS = r'''
>>> pattern_of("queue", 1), pattern_of("round", 2)
((('make', 0), ('make', 1), ('use', 1), ('use', 0)), (('make', 0), ('make', None), ('make', None), ('use', 0)))
>>> least_run(deep, ((1, "d"),), pattern_of("cell", 1)), takes(deep, ((1, "d"),), pattern_of("stack", 1))
(((0, ((1, ((0, ()),)),)), (0, 1, 3)), False)
>>> least_run(deep, ((1, "d"),), pattern_of("round", 2))
((0, ((1, ((1, ((0, ()),)),)),)), (0, 1, 2, 5))
>>> both = (0, ((0, ()), (0, ())))
>>> shown_in(twice, ((1, "a"),), both, pattern_of("stack", 1)), shows(twice, ((1, "a"),), both, pattern_of("queue", 1), (0, 1, 3, 2))
((0, 1, 2, 3), False)
>>> pairs_shown(twice, ((1, "a"), (1, "u")), pattern_of("cell", 1)), takes(twice, ((1, "a"),), pattern_of("round", 2))
((((1, 'a'), (1, 'a')), ((1, 'a'), (1, 'u')), ((1, 'u'), (1, 'u'))), False)
'''

ROUNDS = r'''
>>> spans(once, (0, ()), ((0, "r"), (0, "x"))), can_be_cell(once, ((0, "r"), (0, "x")))
(((0, 1, 0), (1, 2, 0)), True)
>>> inner, spent = (0, ((1, ((0, ()),)),)), ((1, "d"),)
>>> spans(deep, inner, spent), spoilt(deep, inner, spent, 1), spoilt(deep, inner, spent, 2), least_round(deep, spent)
(((0, 3, 1), (1, 2, 0)), ((3, 0, 1),), (), None)
>>> is_round_clash(deep, spent, 1, (inner, 0, 3)), can_be_cell(deep, ((0, "r"), (1, "u"))), round_clash(once, ((0, "x"),), 1)
(True, True, None)
>>> kept = ((1, "a"),)
>>> can_be_cell(twice, kept), least_round(twice, kept), can_be_round(twice, kept, 2)
(False, 2, True)
'''

STACKS = r'''
>>> lot, chain, pair = ((1, "d"),), (0, ((1, ((0, ()),)),)), (0, ((0, ()), (0, ())))
>>> stack_rows(deep, chain, lot), region_rows(deep, chain, lot)
([(), (0,), (0, 1), (0, 1), (0,), (0,), (0,)], [(), (0,), (0, 1), (0,), (), (), ()])
>>> can_be_stack(deep, lot), can_be_region(deep, lot), crossing(deep, lot)
(True, True, None)
>>> crossing(twice, ((1, "a"),)) == (pair, (0, 1, 2, 3)), missed_uses(twice, pair, ((1, "a"),)), is_overstay(twice, ((1, "a"),), (pair, (0, 1, 3)))
(True, ((3, 1),), True)
>>> asked = ((((),), (("r",),), (((1,), ((("make", (0, "x"), ()), ("make", (0, "y"), ()), ("go", 0), ("make", "r", ((0, "z"),))),)),)), ((("x", "y"),), (("z",),), (((), ((("make", "z", ("x",)),),)), ((), ((("make", "w", ()), ("make", "z", ("y",))),)))))
>>> names, slow = ((1, "x"), (1, "y")), (0, ((1, ()),))
>>> can_be_stack(asked, names), can_be_region(asked, names), overstay(asked, names) == (slow, (0, 1, 3)), too_long(asked, slow, names)
(True, False, True, ((3, 0),))
>>> steps = (("make", "x", ()), ("make", "y", ()), ("make", "p", ("x",)), ("make", "q", ("y",)), ("make", "r", ("x",)))
>>> again, both = ((((),), (("r",),), (((), (steps,)),)),), ((0, "x"), (0, "y"))
>>> can_be_stack(again, both), can_be_region(again, both), is_crossing(again, both, ((0, ()), (0, 1, 2, 3)))
(False, True, True)
'''

QUEUES = r'''
>>> can_be_queue(twice, ((1, "a"),)), can_be_order(twice, ((1, "a"),)), queue_rows(twice, pair, ((1, "a"),))
(True, True, [(), (0,), (0, 1), (0, 1), (1,), (1,), (1,)])
>>> nesting(deep, lot) == (chain, (0, 1, 2, 3)), missed_in_queue(deep, chain, lot), order_rows(deep, chain, lot), kept_up(deep, chain, lot)
(True, ((3, 0),), [(), (0,), (0, 1), (0, 1), (), (), ()], ((3, 1),))
>>> can_be_order(deep, lot), is_outlasting(deep, lot, (chain, (0, 1, 3))), is_outlasting(deep, lot, (chain, (0, 1, 2)))
(False, True, False)
>>> can_be_queue(asked, names), can_be_order(asked, names), kept_up(asked, (0, ((0, ()),)), names)
(True, True, ())
>>> can_be_queue(again, both), can_be_order(again, both), order_rows(again, (0, ()), both)[4], nesting(again, both)[1]
(False, False, (0, 1), (0, 1, 3, 4))
>>> can_be_order(again, ((0, "p"),)), can_be_order(again, ((0, "x"), (0, "p"))), can_be_queue(again, ((0, "x"), (0, "p")))
(True, False, True)
'''

LOTS = r'''
>>> five = ((((),), (("r",),), tuple([((), ((("make", one, ()), ("make", two, ()), ("make", "r", (one, two))),)) for one, two in ("ab", "bc", "cd", "de", "ea")])),)
>>> names = tuple([(0, name) for name in "abcde"])
>>> share(five, "cell", (0, "a"), (0, "b")), share(five, "cell", (0, "a"), (0, "c")), len(table_of(five, "cell", names)), none_share(five, "cell", names)
(False, True, 10, ((0, 'a'), (0, 'b')))
>>> fewest_lots(five, "cell", names), greatest_lots(five, "cell", names)[0], fewest_lots(five, "stack", names) == (names,)
((((0, 'a'),), ((0, 'b'), (0, 'd')), ((0, 'c'), (0, 'e'))), ((0, 'a'), (0, 'c')), True)
>>> cheapest_lots(five, "cell", names, (8, 1, 8, 1, 1)), is_parting(five, "cell", names, tuple([(name,) for name in names]))
((((0, 'a'), (0, 'c')), ((0, 'b'), (0, 'd')), ((0, 'e'),)), True)
>>> fewest_lots(deep, "cell", ((1, "d"), (1, "u"))), fits(deep, "stack", ((0, "r"), (1, "d"), (1, "u"))), fits(twice, "stack", ((1, "a"), (1, "u")))
(None, True, False)
>>> share(five, "shelf", (0, "a"), (0, "b"))
raises Unfit()
'''

ALIVES = r'''
>>> lot, a = ((1, "d"),), ((1, "a"),)
>>> counts(deep, chain, lot), most_alive(deep, lot), most_alive(twice, a), most_alive(lent, ((1, "x"), (1, "y")))
([0, 1, 2, 1, 0, 0, 0], None, 2, 1)
>>> is_alive_spot(deep, lot, 2, (chain, 2)), is_alive_spot(deep, lot, 2, (chain, 3)), alive_spot(twice, a, 3)
(True, False, None)
>>> homes_given(twice, pair, pairs_of(twice)), is_homes(twice, pair, a, ((0, 7), (1, 0))), is_homes(twice, pair, a, ((0, 1), (1, 1)))
(((0, 0), (1, 1), (2, 0), (3, 1), (4, 0)), True, False)
>>> is_grant(twice, ((1, "a", 1), (1, "u", 1)), (pair, 3)), grant(twice, ((1, "a", 2), (1, "u", 1)))
(True, None)
>>> most_left(twice, a, 1, 1), most_left(twice, a, 1, 2), most_left(twice, pairs_of(twice), 1, 2), most_left(deep, pairs_of(deep), 1, 1)
(1, 0, 1, 0)
>>> [most_alive_in(deep, pumped(deep, chain, (0,), (0,), many), lot)[0] for many in (1, 2, 3)], pump(twice, a)
([2, 3, 4], None)
'''

DEPTHS = r'''
>>> [height(deep, lot, depth) for depth in (1, 2, 3, 4)], power(deep, lot), slope(deep, lot), power(twice, a), full_depth(twice, a)
([None, 1, 2, 3], 1, (1, 1), 0, 2)
>>> bud = ((), ((("make", "a", ()),), (("make", "u", ("a",)),)))
>>> bough = ((1, 1), ((("make", "a", ()), ("go", 0), ("go", 1)), (("go", 0), ("go", 1), ("make", "u", ("a", (0, "u"), (1, "u"))))))
>>> stem = (((),), (("r",),), (((1,), ((("go", 0), ("go", 0), ("make", "r", ((0, "u"),))),)),))
>>> bush = (stem, (((), ()), ((), ("u",)), (bud, bough)))
>>> [height(bush, a, depth) for depth in (2, 3, 4)], power(bush, a), fork(deep, lot), is_height_spot(deep, lot, 3, (chain, 2))
([1, 3, 7], None, None, True)
>>> young = (0, ((1, ((0, ()), (0, ()))),))
>>> forked(bush, young, (0,), (0,), (1,), 1) == young, nodes(forked(bush, young, (0,), (0,), (1,), 3))
(True, 16)
>>> forked(bush, young, (0,), (0,), (0,), 1)
raises Unfit()
>>> slope(bush, a)
raises CanNot()
'''

FRAMES = r'''
>>> [kept_at(deep, 1, 1, 0, step) for step in (0, 1, 2, 3)], kept_until(deep, 1, 0, "d"), kept_until(lent, 1, 1, "x")
([('d',), ('d',), ('d',), ('u',)], (0, 0), None)
>>> kept_until(lent, 1, 0, "x"), is_kept_run(lent, 1, 0, "x", ((0, ((0, ()),)), (0,), 0, 2))
((0, 1), True)
>>> further = ((1,), ((("make", (0, "d"), ("d",)), ("go", 0), ("hand", "u", (0, "u"))),))
>>> relay = (top, ((("d",),), (("u",),), (leaf, further)))
>>> drop_at(relay, 1, 1), drop_at(deep, 1, 1), tails(relay), one_frame(relay, 1), one_frame(deep, 1)
((0, 1), None, ((1, 1, 0, 1),), True, False)
>>> two = ((((),), (("r",),), (((), ((("make", "x", ()), ("make", "y", ()), ("make", "r", ("x", "y"))),)),)),)
>>> frame_cells(two, 0), is_frame_clash(two, 0, "x", "y", ((0, ()), (), 0, 1, 2)), frame_cells(deep, 1)
((('r', 'x'), ('y',)), True, (('d', 'u'),))
'''

INPLACE = r'''
>>> spots(once), may_write_over(once, (0, 0, 0, 1, 0)), homes_in_place(once, (0, ()), best_overs(once))
(((0, 0, 0, 1, 0),), True, ((0, 0), (1, 0)))
>>> best_overs(deep), homes_in_place(deep, inner, best_overs(deep))
(((0, 0, 0, 2, 0), (1, 0, 0, 0, 0), (1, 1, 0, 2, 0)), ((0, 0), (1, 1), (2, 1), (3, 0), (4, 0)))
>>> more = ((((),), (("r",),), (((), ((("make", "x", ()), ("make", "y", ("x",)), ("make", "r", ("x", "y"))),)),)),)
>>> over_spots(more), is_over_clash(more, (0, 0, 0, 1, 0), ((0, ()), 1, 2))
(((0, 0, 0, 2, 0), (0, 0, 0, 2, 1)), True)
>>> spoilt_in_place(more, (0, ()), ((0, 0, 0, 1, 0),))
((2, 0, 1),)
>>> may_write_over(more, (0, 1, 0, 0, 0))
raises NoRule(number=1)
'''

ORDERS = r'''
>>> sums = ((((),), (("r",),), (((), ((("make", "x", ()), ("make", "y", ()), ("make", "p", ("x",)), ("make", "q", ("y",)), ("make", "r", ("p", "q"))),)),)),)
>>> both, better = ((0, "x"), (0, "y")), exchanged(sums, 0, 0, 0, 1)
>>> len(orders_of(sums, 0, 0)), orders_of(sums, 0, 0)[1], better == in_order(sums, 0, 0, ((0, 2, 1, 3, 4),)), fits(sums, "cell", both), fits(better, "cell", both)
(6, ((0, 1, 3, 2, 4),), True, False, True)
>>> best_orders(sums, "cell", both), fewest_by_orders(sums, "cell", ((0, "p"), (0, "q"), (0, "x"), (0, "y")))
(((((0, 2, 1, 3, 4),),),), (2, ((((0, 1, 2, 3, 4),),),)))
>>> best_orders(twice, "cell", ((1, "a"),)), best_orders(deep, "cell", ((1, "d"),))
(((((0, 2, 1, 3, 4),),), (((0,), (0,)),)), None)
>>> joined = joined_visits(twice, 1, 0)
>>> joined[0][2][0][1][0][:2], joined[1][:2], fits(joined, "cell", ((1, "a"),))
((('go', 0), ('go', 1)), (((),), (('u',),)), True)
>>> exchanged(sums, 0, 0, 0, 3)
raises Unfit()
'''

CHANGES = r'''
>>> shallow = (top, (deep[1][0], deep[1][1], (leaf,)))
>>> with_rule(shallow, 1, node) == deep, without_rule(deep, 1, 1) == shallow
(True, True)
>>> turned(shallow, deep, "cell", (((1, "d"),), ((1, "u"),))), split_name(five, 0, 1, "b", "z")[0][2][1][1][0][0]
((((1, 'd'),),), ('make', 'z', ()))
>>> renamed(deep, 1, "u", "v")[0][2][0][1][0][2], inlined(twice, 0, 0, 0)[0][2][0][0]
(('make', 'r', ((0, 'v'),)), (1,))
>>> inlined(deep, 0, 0, 0)[0][2][0], inlined(deep, 0, 0, 0)[0][2][1][1][0][:2]
(((), ((('make', 'a', ()), ('make', 'b', ('a',)), ('make', 'r', ('b',))),)), (('make', 'a', ()), ('make', (0, 'd'), ('a',))))
>>> new_names(deep, 0, 0, 0), tree_inlined(deep, 0, 0, 0, chain), fits(inlined(deep, 0, 0, 0), "cell", ((0, "a"),))
((('d', 'a'), ('u', 'b')), (1, ((0, ()),)), True)
>>> inlined(deep, 0, 0, 1)
raises Unfit()
'''

HARMS = r'''
>>> shadow(deep, 1, (0, ())), shadow(deep, 1, (1, ((0, ()),))), shadows(deep, 1), shadows(once, 0)
((('d', 'u'),), (('d', 'u'),), ((('d', 'u'),),), ((),))
>>> can_be_heard(twice), heard_tree(once, (0, "x")), heard_tree(again, (0, "p"))
(((0, 'r'), (1, 'a'), (1, 'u')), (0, ()), None)
>>> hangs_on(once, (0, ()), 1, 0), heard_events(once, (0, ())), asked_terms(once, (0, ()))
(True, (0, 1), (((((), 0, 1), (((), 0, 0),)),),))
>>> pair = (0, ((0, ()), (0, ())))
>>> harmless_in(twice, pair, ((1, "a"),), 1), harmless_in(twice, pair, ((1, "a"),), 2), harmless_in(once, (0, ()), ((0, "x"),), 1)
(False, True, True)
>>> spoilt_terms(twice, pair, ((1, "a"),), 1) == asked_terms(twice, pair), spoilt_terms(twice, pair, ((1, "a"),), 2) == asked_terms(twice, pair)
(False, True)
'''

LAYOUTS = r'''
>>> both, kept = (0, ((0, ()), (0, ()))), ((1, "a"),)
>>> origins(deep), is_layout(once, (("cell", 0, ((0, "r"), (0, "x"))),)), is_layout(once, (("cell", 0, ((0, "r"),)),))
(((0, 'r'), (1, 'd'), (1, 'u')), True, False)
>>> [serves(twice, home, 0, kept) for home in ("cell", "stack", "queue", "region", "order")], serves(twice, "homes", 1, kept)
([False, False, True, False, True], False)
>>> is_spoiling(twice, "stack", 0, kept, (both, (0, 1, 2, 3))), is_spoiling(twice, "region", 0, kept, (both, (0, 1, 3))), is_spoiling(twice, "homes", 1, kept, (both, (0, 1, 2)))
(True, True, True)
>>> cheapest(deep, ((1, "d"),)), cheapest(deep, ((0, "r"), (1, "u"))), failing(twice, (("cell", 0, ((0, "r"), (1, "u"))), ("order", 0, kept)))
(('stack', 0), ('cell', 0), (0,))
>>> layout = best_layout(twice, (((0, "r"),), kept, ((1, "u"),)))
>>> layout, cost(layout)
((('cell', 0, ((0, 'r'),)), ('round', 2, ((1, 'a'),)), ('round', 2, ((1, 'u'),))), (0, 0, 5))
>>> spoiling(once, "cell", 0, ((0, "x"),))
raises CanNot()
>>> best_layout(twice, (((0, "r"),), kept))
raises Unfit()
'''

ENGINE = r'''
>>> stacked = (("cell", 0, ((0, "r"),)), ("stack", 0, ((1, "a"),)), ("round", 2, ((1, "u"),)))
>>> engine = Engine(twice, stacked)
>>> engine.wants(), engine.choose(0), engine.wants(), engine.choose(0), engine.step()
((), None, (0,), None, 0)
>>> engine.wants(), engine.tree(), engine.alive(), engine.kept(1)
((1,), (0, ((0, ()), None)), (0,), (0,))
>>> other = engine.twin()
>>> engine.choose(0), engine.go_on(), engine.ended(), engine.misread(), engine.outs()
(None, 6, True, ((3, 1),), ((('r', 4),),))
>>> engine.kept(1), engine.kept(2), engine.tree(), other.wants(), other == engine
((0,), (2, 3), (0, ((0, ()), (0, ()))), (1,), False)
>>> engine.step()
raises CanNot()
>>> engine.choose(0)
raises NothingDone()
>>> other.choose(1)
raises NoRule(number=1)
>>> other.step()
raises Unfit()
'''

CODE = r'''
>>> code_of(once, (("cell", 0, ((0, "r"), (0, "x"))),))
((('cell', 0),), ((((), ((('make', 0, None, ()), ('make', 0, None, ((0, None),))),)),),), (((0, None),),))
>>> bare(twice, layout), frame_names(twice, layout), code_of(twice, layout)[1][1]
(((0, 'r'),), ((), ('a', 'u')), (((), ((('make', 1, 'a', ()),), (('make', 2, 'u', ((None, 'a'),)),))),))
>>> run_code(code_of(twice, layout), both), reads_due(twice, both) == run_code(code_of(twice, layout), both)
([(), (), (0,), (1,), (2, 3), (4,)], True)
>>> piled = (layout[0], ("stack", 0, ((1, "a"),)), layout[2])
>>> run_code(code_of(twice, piled), both), may_hold(lent, 1, "y"), is_code(twice, piled, code_of(twice, layout))
([(), (), (0,), (None,), (2, 3), (4,)], ((1, 'x'), (1, 'y')), False)
>>> code_of(twice, (layout[0], ("region", 0, ((1, "a"),)), layout[2]))
raises CanNot()
'''

JUDGE = r'''
>>> pair, line, a, d = (0, ((0, ()), (0, ()))), (0, ((1, ((0, ()),)),)), ((1, "a"),), ((1, "d"),)
>>> [stands((word, twice, a)) for word in ("cell", "stack", "queue", "region", "order", "deaf")], stands(("round", twice, a, 2)), stands(("homes", twice, a, 1))
([False, False, True, False, True, False], True, False)
>>> is_paper_against(("cell", twice, a), (pair, (0, 1, 2))), is_paper_against(("stack", twice, a), (pair, (0, 1, 2, 3))), is_paper_against(("stack", twice, a), (pair, (0, 1, 3, 2)))
(True, True, False)
>>> is_paper_against(("homes", twice, a, 1), (pair, (0, 1, 2))), is_paper_against(("region", twice, a), (pair, (0, 1, 3))), is_paper_against(("deaf", twice, a), (pair, (0, 4)))
(True, True, True)
>>> stands(("stack", deep, d)), is_paper_against(("queue", deep, d), (line, (0, 1, 2, 3))), is_paper_against(("cell", deep, d), (line, (0, 1, 3)))
(True, True, True)
>>> first_fallen((("cell", once, ((0, "x"),)), ("cell", twice, a)))[0], is_claim(("cell", once, ((0, "y"),)))
(1, False)
>>> stands(("sure", once, ()))
raises Unfit()
'''

TEXTS = r'''
>>> once = ((((),), (("r",),), (((), ((("make", "x", ()), ("make", "r", ("x",))),)),)),)
>>> program_text(once)
'procedure\nvisit - r\nrule\nrow\nmake x\nmake r x\n'
>>> read_program(program_text(once)) == once, tree_word((1, ((0, ()), (2, ())))), tree_read("1(0,2)")
(True, '1(0,2)', (1, ((0, ()), (2, ()))))
>>> word_text((0, "u")), word_read("0.u"), word_read("u"), word_read("0."), lot_word(((0, "r"), (1, "d"))), lot_read("-")
('0.u', (0, 'u'), 'u', None, '0.r,1.d', ())
>>> layout_text((("cell", 0, ((1, "d"),)),)), read_layout("home round 2 -")
('home cell 0 1.d\n', (('round', 2, ()),))
>>> read_program("procedure\nvisit - r\nrow")
raises BadLine(number=2)
>>> read_program("procedure\nvisit - r\nrule")
raises BadLine(number=3)
>>> read_program("procedure\nvisit - r\nrule\nrow")
raises Unfit()
'''

BOARD = r'''
>>> board = Board(deep)
>>> board.keep("stack", 0, ((1, "d"),)), board.keep("cell", 0, ((1, "d"),)), board.failing(), board.front()
(None, None, (1,), ())
>>> board.choose(0), board.front(), board.choose(1), board.least()
((((), 0, 0),), (0,), (((0,), 0, 0),), (0, ((1, ((0, ()),)),)))
>>> board.alive(), board.seen(), board.choose(0)
((0, 1), (), (((0, 0), 0, 0), ((0,), 0, 2), ((), 0, 2), ((), 0, 3)))
>>> board.front(), board.alive(), board.seen(), len(board.events()), board.known()
(None, (), (1,), 6, (((), 0), ((0,), 1), ((0, 0), 0)))
>>> board.strike(1, 1)
raises CanNot()
>>> board.undo(), board.undo(), board.strike(1, 1), board.failing()
(None, None, None, ())
>>> board.choose(0), board.leave(0), board.parts(), board.twin() == board
((((0,), 0, 0), ((), 0, 2), ((), 0, 3)), None, (('cell', 0, ((1, 'd'),)),), True)
>>> board.redo()
raises NothingDone()
'''

DESK = r'''
>>> replies(deep, "keep stack 0 1.d\nkeep cell 0 1.d\nfailing\nfront\nchoose 0\nfront\nchoose 1\nleast\nalive\nseen\nchoose 0")
['done', 'done', '1', '-', '-/0/0', '0', '0/0/0', '0(1(0))', '0 1', '-', '0.0/0/0 0/0/2 -/0/2 -/0/3']
>>> replies(deep, "choose 7\nchoose 0\nchoose 1\nchoose 0\nfront\nchoose 0\nknown\nstrike 1 1\nundo\nundo\nstrike 1 1\nleast")
['refused NoRule', '-/0/0', '0/0/0', '0.0/0/0 0/0/2 -/0/2 -/0/3', 'end', 'refused CanNot', '-:0 0:1 0.0:0', 'refused CanNot', 'done', 'done', 'done', '0(0)']
>>> replies(once, "program\nparts\nkeep round 2 0.x\nkeep cell 0 0.r\nparts\nleave 5\nkeep cell 1 0.x\nredo\nevents\nchoose 0\nevents")
['procedure / visit - r / rule / row / make x / make r x', '-', 'done', 'done', 'round 2 0.x / cell 0 0.r', 'refused CanNot', 'refused Unfit', 'refused NothingDone', '-', '-/0/0 -/0/1 -/0/2', '-/0/0 -/0/1 -/0/2']
>>> is_request("choose 01"), is_request("keep cell 0 x"), is_request("keep cell 0 0.x"), is_request("front "), path_word(()), event_word(((0, 1), 0, 2))
(False, False, True, False, '-', '0.1/0/2')
>>> replies(once, "front\nchoose")
raises BadLine(number=1)
'''

MODULES = (
    errors, programs, trees, runs, alive, entries, choices, openings, profiles, patterns,
    rounds, stacks, queues, lots, alives, depths, frames, inplace, orders, changes, harms, layouts,
    engine, code, judge, texts, board, desk,
)


def steps_in(text):
    """Pairs of what is done and what is told, None where nothing is."""
    lines = [line for line in text.split("\n") if line]
    for line, after in zip(lines, lines[1:] + [">>> "]):
        if line.startswith(">>> "):
            yield line[4:], None if after.startswith(">>> ") else after


def told_error(error):
    parts = ", ".join(f"{name}={value!r}" for name, value in vars(error).items())
    return f"raises {type(error).__name__}({parts})"


class Examples(unittest.TestCase):
    @classmethod
    def setUpClass(cls):
        cls.names = {}
        for module in MODULES:
            for name, value in vars(module).items():
                if not name.startswith("_"):
                    cls.names[name] = value
        cls.done = []

    def check(self, text):
        for done, told in steps_in(text):
            if told is None:
                exec(done, self.names)
                continue
            try:
                found = eval(done, self.names)
            except (LookupError, ValueError) as error:
                found = error
            if isinstance(found, Exception):
                self.assertEqual(told_error(found), told, done)
            else:
                self.assertEqual(found, eval(told, self.names), done)

    # One test: names in an example are those of the nearest one ahead that sets them.
    def test_all(self):
        for text in (
                PROGRAMS, TREES, RUNS, ALIVE, ENTRIES, PROFILES, PATTERNS, ROUNDS, STACKS,
                QUEUES, LOTS, ALIVES, DEPTHS, FRAMES, INPLACE, ORDERS, CHANGES, HARMS, LAYOUTS, ENGINE,
                CODE, JUDGE, TEXTS, BOARD, DESK,
        ):
            self.check(text)


if __name__ == "__main__":
    unittest.main()
