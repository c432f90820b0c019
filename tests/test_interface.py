"""The names, parameters and files of the interface, as far as it has landed, and the errors."""

import importlib
import inspect
import unittest

ERRORS = {
    LookupError: {"NoView": "number", "NoNumber": "number", "NoWord": "word", "NothingDone": ""},
    ValueError: {"Unfit": "", "NoPaper": "", "TooMany": "", "BadText": "", "BadLine": "number"},
}

FUNCTIONS = {
    "powers": """is_powers(thing) powers_of(numbers,shares) powers_times(one,other) powers_over(one,other)
        powers_to(powers,much) compared(one,other) ranked(several) worth_of(powers) whole_part(powers)
        part_at(powers,many) root_part(number,many) first_above(powers,other)""",
    "rows": """is_rows(thing,size) is_stepped(thing,size) stepped(rows) same_sums(rows,other) rank_of(rows)
        det_of(table) filled(rows) is_full(rows) index_of(rows) whole_shares(rows,row) is_shares(rows,row,thing)
        whole_bar(rows,row) is_bar(rows,row,thing) turner(rows) is_turner(rows,thing) completed(rows,size)
        is_completed(rows,size,thing)""",
    "spaces": """is_space(thing,size) whole_space(size) is_in(space,point) taken(space,point) within(space,other)
        sum_space(space,other) meet(space,other) zeros_of(rows,size) image(view,space) image_dim(view,space)
        back_image(view,space,size) rest_of(outer,inner) is_rest(outer,inner,thing) is_chain(thing,size)
        longest(chain,size) is_longest(chain,size,thing) small_spaces(size,most)""",
    "views": """is_view(thing,size) is_sight(thing) shown(sight,number,point) kernel(sight,number)
        common_kernel(sight,numbers) dims(sight,space) inside(sight,space) beyond(sight,space)
        from_inside(sight,space,inner) from_beyond(sight,space,outer) with_view(sight,view)
        only_views(sight,numbers) joined_view(sight,numbers) based(sight,base) beside(one,other) alike(one,other)
        finer(sight,number,other)""",
    "lots": """is_lot(thing,size) shown_lot(view,lot) image_sizes(sight,lot) fibres(view,lot) spread(view,lot)
        parts(size,space,lot) box(size,space,side) box_of(size,rows,sides) lot_sum(lot,other) lot_moved(lot,point)
        lot_product(lot,other) keeps(sight,shares,lot) reaches(sight,shares,lot)""",
    "kinds": """all_kinds(sight) kinds_of_dim(sight,dim) hard_kinds(sight) is_kind(sight,thing)
        space_of_kind(sight,kind) is_space_of_kind(sight,kind,thing) free_kind(sight,dim) hidden_lots(sight)
        hidden_point(sight,numbers) is_hidden_point(sight,numbers,thing)""",
    "holds": """excess(sight,shares,space) greatest_excess(sight,shares) least_space(sight,shares)
        greatest_space(sight,shares) holds(sight,shares) too_great(sight,shares) is_too_great(sight,shares,thing)
        even_space(sight,shares) is_even_space(sight,shares,thing) enough_share(sight,shares,number)
        enough_times(sight,shares) in_parts(sight,shares,space)""",
    "reasons": """is_leaf(sight,shares) reason(sight,shares) is_reason(sight,shares,thing) split_at(sight,shares,space)
        raised(sight,shares,given,other) mixed(sight,parts) nodes(given) depth(given) parted_by(sight,given)
        leaves_in(sight,shares,given)""",
    "breaks": """box_lot(rows,sides) rooms(sight,rows,sides) lot_breaks(sight,shares,lot)
        box_powers(sight,shares,rows,sides) surely_breaks(sight,shares,rows,sides) is_break(sight,shares,thing)
        least_side(sight,shares,space,times) break_of(sight,shares) first_break(sight,shares)
        broken_shares(sight,space,side,some)""",
    "region": """corners(sight) mix_of(sight,shares) is_mix_of(sight,shares,thing) least_sum(sight,heights)
        kind_weights(sight,heights) is_kind_weights(sight,heights,thing) least_of_view(sight,number) even_share(sight)
        tight_kinds(sight,shares) leaned(sight,shares) as_far(sight,one,other) bearing_lots(sight)""",
    "bounds": """bound(sizes,shares) whole_bound(sizes,shares) all_least(sight,sizes) tightest(sight,sizes)
        most_points(sight,sizes) pressing(sight,sizes) gain(sight,sizes,number) least_size(sight,sizes,number,many)
        reach(sight,sizes) is_reach(sight,sizes,thing) reach_worth(sizes,reach) ceiling(sight,sizes)
        is_ceiling(sight,sizes,many,thing)""",
    "flags": """is_flag(size,thing) flag_worth(pairs) flag_heights(sight,pairs) fits(sight,pairs,heights)
        best_worth(sight,heights) best_flag(sight,heights) is_best_flag(sight,heights,thing) uncrossed(pairs)
        flag_rows(flag) is_flag_rows(flag,thing) flag_box(flag,base) slopes(sight,shares) is_level(sight,shares)
        level_parts(sight,shares)""",
    "covers": """cover_sight(size,sets) is_cover(size,sets,thing) like_share(size,sets) corner_covers(size,sets)
        least_cost(size,sets,heights) least_cover(size,sets,heights) best_packing(size,sets,heights)
        is_packing(size,sets,heights,thing) cover_powers(size,sets,sizes) best_box(size,sets,sizes)
        meeting_lot(size,sets,images) pressed(lot,place) pressed_down(lot) is_pressed(lot)""",
    "bases": """line_sight(size,rows) line_rank(rows,chosen) line_closed(rows,chosen) line_flats(rows)
        is_basis(size,rows,thing) all_bases(size,rows) may_leave(size,rows,basis,number) line_holds(size,rows,shares)
        base_mix(size,rows,shares) is_base_mix(size,rows,shares,thing) short_flat(size,rows,shares)
        is_short_flat(size,rows,shares,thing) even_line(size,rows) tight_flat(size,rows)
        cheap_basis(size,rows,heights) cost_steps(size,rows,heights) is_cost_steps(size,rows,heights,thing)""",
    "chances": """is_chances(thing,size) even_chances(lot) is_even(chances) chances_seen(view,chances)
        given_seen(view,chances) width(chances) width_given(view,chances) tells(view,second,chances)
        in_common(view,second,chances) chances_mixed(parts) chances_beside(one,other) chances_shifted(chances,point)
        left_over(sight,shares,chances) hold_at(sight,shares,chances) is_breaking(sight,shares,thing)""",
    "weights": """is_weight(view,thing) is_weights(sight,thing) laid(weight,image) mass(weight,many) greatest(weight)
        product_at(sight,weights,point) total(sight,weights,lot) carried(sight,weights) whole_total(sight,weights)
        limit(sight,shares,weights) is_within_limit(sight,shares,weights) ones(sight,lot) weight_times(weight,much)
        moved(sight,weights,point)""",
    "groups": """is_pspace(prime,size,thing) pspan(prime,rows) pspaces(prime,size) ppoints(prime,size,space)
        at_prime(prime,space) pdims(prime,sight,space) pkinds(prime,sight) pholds(prime,sight,shares)
        pbest(prime,sight,shares) pbreak(prime,sight,shares) is_pbreak(prime,sight,shares,thing)
        worse_primes(sight,shares) is_group(thing) is_hom(group,thing) is_subgroup(group,thing) all_elements(group)
        hom_image(group,hom,part) made_by(group,part) subgroups(group) residues(sight,number)
        part_worth(group,homs,shares,part) best_subgroups(group,homs,shares) least_number(group,homs,shares)
        groups_hold(group,homs,shares) groups_beside(group,homs,other,more)""",
    "loops": """is_nest(thing) nest_points(nest) touched(nest,lot) is_order(nest,thing) fewest_loads(nest,order,store)
        keeping(nest,order,store) is_keeping(nest,order,store,thing) fence(nest,order,store)
        is_fence(nest,order,store,thing) best_loads(nest,store) best_order(nest,store) most_done(shares,cells)
        told_loads(nest,shares,store) blocked(nest,base,sides) block_cells(nest,base,sides)
        best_sides(nest,base,store) flag_base(size,flag) is_flag_base(size,flag,thing) flag_sides(size,flag,number)
        flag_blocks(nest,flag,base,store)""",
    "judge": """is_claim(thing) is_so(claim) paper(claim) is_paper(claim,thing) shows(claim,thing) about(claim,sight)
        not_so(claims) turned_by(claims,sight)""",
    "texts": """fraction_text(fraction) rows_text(rows) shares_text(shares) powers_text(powers) flag_text(flag)
        sight_text(sight) reason_text(reason) fraction_in(text) rows_in(text) shares_in(text) powers_in(text)
        flag_in(text) sight_in(text) reason_in(text)""",
    "desk": """is_request(line) replies(size,text) last_board(size,text)""",
}

BOARD = """sight() shares() sizes() deeds() __len__() view(view,share,told) drop(number) row(number,row) cut(number,place)
    share(number,share) told(number,told) do(deed) undo() redo() behind(m) holds() excess() bound() turns() spare()
    is_plan(deeds) twin() __eq__(other)"""


class Interface(unittest.TestCase):
    def test_board(self):
        module = importlib.import_module("seenlots.board")
        self.assertTrue(inspect.isclass(module.Board))
        self.assertEqual(module.Board.__module__, "seenlots.board")
        self.assertEqual(module.Board.__bases__, (object,))
        self.assertEqual(list(inspect.signature(module.Board).parameters), ["size"])
        for text in BOARD.split():
            name, _, names = text[:-1].partition("(")
            function = vars(module.Board)[name]
            self.assertTrue(inspect.isfunction(function), name)
            self.assertEqual(list(inspect.signature(function).parameters)[1:], names.split(",") if names else [], name)

    def test_all_files(self):
        # In this order a file draws from those ahead of it alone.
        order = ["errors"] + [file for file in FUNCTIONS if file != "desk"] + ["board", "desk"]
        self.assertEqual(order, "errors powers rows spaces views lots kinds holds reasons breaks region bounds flags covers bases chances "
                         "weights groups loops judge texts board desk".split())

    def test_functions(self):
        for file, told in FUNCTIONS.items():
            module = importlib.import_module("seenlots." + file)
            for text in told.split():
                name, _, names = text[:-1].partition("(")
                function = getattr(module, name)
                self.assertTrue(inspect.isfunction(function), name)
                self.assertEqual(function.__module__, "seenlots." + file, name)
                self.assertEqual(list(inspect.signature(function).parameters), names.split(","), name)

    def test_errors(self):
        module = importlib.import_module("seenlots.errors")
        classes = [value for value in vars(module).values() if inspect.isclass(value)]
        self.assertEqual(len(classes), 9)
        for base, told in ERRORS.items():
            for name, attribute in told.items():
                kind = getattr(module, name)
                self.assertIn(kind, classes)
                self.assertEqual(kind.__module__, "seenlots.errors")
                self.assertEqual(kind.__bases__, (base,), name)
                if not attribute:
                    self.assertEqual(vars(kind()), {}, name)
                    continue
                for value in (0, -3, 10 ** 20, "word", ""):
                    self.assertEqual(vars(kind(value)), {attribute: value}, name)
                    self.assertEqual(vars(kind(**{attribute: value})), {attribute: value}, name)
                with self.assertRaises(TypeError):
                    kind()

    def test_errors_are_caught(self):
        module = importlib.import_module("seenlots.errors")
        with self.assertRaises(LookupError) as caught:
            raise module.NoView(3)
        self.assertEqual(caught.exception.number, 3)
        with self.assertRaises(ValueError) as caught:
            raise module.BadLine(0)
        self.assertEqual(caught.exception.number, 0)


if __name__ == "__main__":
    unittest.main()
