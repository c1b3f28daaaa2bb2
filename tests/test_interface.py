"""The names and the arguments of the interface, each defined in its own file."""

import importlib
import inspect
import unittest

FUNCTIONS = {
    "ratios": ["need_fraction(thing)", "ratio(top, bottom)", "plus(one, other)", "less(one, other)",
               "times(one, other)", "over(one, other)", "is_less(one, other)", "power(one, number)"],
    "polys": ["need_poly(thing)", "poly_by(some)", "poly_sum(one, other)", "poly_less(one, other)",
              "product(one, other)", "worth_at(poly, mark)"],
    "rows": ["need_row(thing)", "need_share(thing)", "moments(share, top)", "sum_by(row, poly)",
             "mixed(row, other, near, far)"],
    "ladders": ["need_ladder(thing)", "is_ended(ladder)", "rung_polys(ladder)", "norms(ladder)",
                "row_of(ladder, top)"],
    "rowshares": ["is_of_share(row)", "ladder_of(row)", "row_paper(row)", "check_row(row, paper)", "pivots(row)"],
    "nexts": ["next_fits(row)", "does_fit(row, mark)"],
    "divide": ["quotient_of(one, other)", "rest_of(one, other)", "common_part(one, other)", "slope_of(poly)",
               "plain_part(poly)"],
    "signs": ["sign_row(poly)", "changes_of(some)", "roots_in(poly, low, high)", "root_count(poly)", "is_real(poly)",
              "fence_of(poly)", "is_fence(poly, value)", "rational_roots(poly)"],
    "expand": ["parts_by(ladder, poly)", "from_parts(ladder, parts)", "roots_above(ladder, number, mark)",
               "product_parts(ladder, number, far)"],
    "toandfro": ["do_go(poly, other)", "pair_paper(poly, other)", "check_pair(poly, other, paper)"],
    "nears": ["near_fractions(ladder)", "series(top, bottom, last)"],
    "chains": ["chain_row(top, bottom)", "chain_ladder(top, bottom)", "chain_of(share)"],
    "rises": ["need_rises(thing)", "rises_ladder(total, rises)", "rises_of(row)", "rises_paper(row)",
              "check_rises(row, paper)"],
    "folds": ["weighed_by_x(row)", "folded(row)", "unfolded(row)"],
    "squares": ["square_of(row, number)", "shifted_of(row, number)"],
    "tables": ["need_table(thing)", "table_of(ladder)", "power_of(table, number)", "corner(table, number)",
               "table_ladder(total, table)", "are_alike(table, other)"],
    "cuts": ["table_poly(table)", "cut_table(table)", "bordered(table, low, first, high)", "turned_table(table)"],
    "ways": ["all_ways(start, stop, many)", "heights_of(start, way)", "way_worth(ladder, start, way)"],
    "waysums": ["way_sum(ladder, start, stop, many)", "row_by_ways(ladder, top)", "ladder_by_ways(row)"],
    "profiles": ["profile_of(way)", "profile_count(profile)", "all_profiles(many)"],
    "apart": ["bundles(starts, ends)", "order_sign(bundle_order)", "bundle_worth(ladder, starts, bundle)",
              "way_table(ladder, starts, ends)", "table_determinant(table)"],
    "rungsabove": ["ladder_above(ladder)", "cut_at(ladder, height)"],
    "rates": ["need_rates(thing)", "is_closed(rates)", "chances(rates, rung, steps)", "back_row(rates, top)"],
    "walks": ["walk_ladder(rates)", "rates_of(ladder)", "walk_paper(ladder)", "check_walk(ladder, paper)"],
    "walkweights": ["rung_weights(rates)", "first_backs(rates, top)", "mean_back(rates)"],
    "strings": ["need_string(thing)", "shape_at(string, mark)", "string_polys(string)", "answer_at(string, mark)",
                "joined_strings(string, other)"],
    "unstring": ["string_from(poly, other)", "string_paper(poly, other)", "check_string(poly, other, paper)"],
    "tones": ["share_of_string(string)", "string_of_share(share)", "tones_below(string, mark)"],
    "leaks": ["leak_at(string, mark)", "grown_string(string, part, number, mark)"],
    "rules": ["need_rule(thing)", "node_of(points)", "parts_for(row, points)", "rule_for(row, points)",
              "exact_to(row, rule, number)", "spread_of(row, rule)"],
    "fewest": ["fewest_rule(row, number)", "root_rule(row, number)", "check_root_rule(row, number, poly, other)"],
    "rootsums": ["root_sum(poly, other)", "power_sums(poly, top)"],
    "marks": ["left_row(row, load)", "can_be_there(row, load)", "most_at(row, mark)", "least_square(row, mark)",
              "weight_paper(row, mark, weight)", "check_weight(row, mark, weight, paper)"],
    "through": ["ladder_through(row, mark)"],
    "parts": ["part_bound(row, mark)", "two_numbers(row, mark)"],
    "partings": ["all_partings(kind, many)", "is_of_kind(kind, parting)", "turned_parting(parting)",
                 "parting_sign(kind, parting)"],
    "cumulants": ["cumulants_of(row, kind)", "row_of_cumulants(total, cumulants, kind)",
                  "moment_by(kind, cumulants, many)", "cumulant_by(row, kind, many)"],
    "kindsums": ["kind_sum(row, other, kind)", "share_sum(share, second)"],
    "markedways": ["marked_way(parting)", "parting_of(way, marks)"],
    "moves": ["moved_row(row, step)", "scaled_row(row, factor)", "times_row(row, many)", "moved_ladder(ladder, step)",
              "scaled_ladder(ladder, factor)", "with_atom(row, place, weight)"],
    "weighed": ["by_line(row, place)", "by_square(row, place)", "line_steps(ladder, place)"],
    "thins": ["thinned_row(row)", "filled_row(row)", "thinned_ladder(ladder)"],
    "sides": ["need_side(thing)", "ladder_by(side)", "turned_to(side, word)", "are_one(side, other)"],
    "terms": ["need_term(thing)", "share_of(term)", "kids_of(term)"],
    "book": ["under(manager, deed)"],
    "texts": ["term_text(term)", "row_text(row)", "read_term(text)", "read_row(text)", "fraction_text(one)"],
    "judge": ["judged(text)"],
}
# The classes, with the methods that stand in each itself; a name without arguments is a property.
CLASSES = {
    "book": ("Book", ["__init__(self, total)", "row_now", "hear(self, mark)", "ladder_now(self)", "is_closed(self)",
                      "fits_now(self)", "undo(self, many=1)", "copy(self)", "trial(self)", "__len__(self)",
                      "__eq__(self, other)"]),
    "desk": ("Desk", ["__init__(self, text)", "book", "say(self, line)"]),
}


class Interface(unittest.TestCase):

    def test_functions(self):
        for name, wanted in FUNCTIONS.items():
            module = importlib.import_module("rungshare." + name)
            for line in wanted:
                deed = getattr(module, line.partition("(")[0])
                self.assertTrue(inspect.isfunction(deed), line)
                self.assertEqual(deed.__module__, module.__name__)
                self.assertEqual(deed.__name__ + str(inspect.signature(deed)), line)

    def test_classes(self):
        for name, (word, wanted) in CLASSES.items():
            module = importlib.import_module("rungshare." + name)
            held = vars(module)[word]
            self.assertEqual((held.__module__, held.__bases__), (module.__name__, (object,)))
            for line in wanted:
                part = vars(held)[line.partition("(")[0]]
                if "(" not in line:
                    self.assertIsInstance(part, property, line)
                    self.assertIs(part.fset, None)
                    continue
                self.assertTrue(inspect.isfunction(part), line)
                self.assertEqual(part.__name__ + str(inspect.signature(part)), line)


if __name__ == "__main__":
    unittest.main()
