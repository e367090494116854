"""That all names of the document's interface are there, with their arguments by these names and in this order."""

import importlib
import inspect
import unittest

from dunebooks.yard import Yard

FUNCTIONS = {
    "dunes": "is_dune(thing) steepest(dune) sand(dune) raised(dune,by) mirrored(dune) upside(dune) handed(dune,post,by)",
    "winds": "is_wind(thing) blown(dune,wind) is_idle(dune,wind) contrary(wind) sources(dune,wind) "
             "shows_blown(dune,wind,thing)",
    "almanacs": "is_almanac(thing) behind(dune,almanac) amounts(dune,almanac) idle_in(dune,almanac) gentlest(almanac) "
                "can_stand(dune,almanac)",
    "cores": "core(almanac) is_core(thing) alike(one,other) parting(one,other) shows_parting(one,other,thing)",
    "orders": "is_order(cuts,fills,thing) almanac_of(cuts,fills,order) books_of(almanac) order_of(almanac) "
              "holds(order,words) bounds(cuts,fills,words) orders_many(cuts,fills,words) "
              "order_at(cuts,fills,words,number) number_of(cuts,fills,words,order)",
    "between": "least_order(cuts,fills,words) greatest_order(cuts,fills,words) may_stand(dune,cuts,fills,words) "
               "sure_posts(dune,cuts,fills,words)",
    "bookcores": "cores_many(cuts,fills) cores_all(cuts,fills) order_for(cuts,fills,core) "
                 "order_to(dune,cuts,fills,told) ends_all(dune,cuts,fills)",
    "plays": "held(dune,almanac,word,play) best_play(dune,almanac,word) shows_most(dune,almanac,post,height,thing) "
             "shows_least(dune,almanac,post,height,thing)",
    "sure": "corners(order) is_enough(dune,cuts,fills,words) fewest_words(dune,cuts,fills,order)",
    "torn": "slopes_for(dune,ahead,word,later,told) fits_torn(dune,ahead,later,told)",
    "beside": "width(one,other) widest(one,other) is_below(one,other) widths(one,other,almanac) "
              "felt(dune,almanac,post,by)",
    "longbooks": "done(dune,entries) kept_by(entries,word) idle_for_all(entries) stretches(cutter,filler) "
                 "long_may(dune,cutter,filler) long_many(cutter,filler)",
    "texts": "dune_text(dune) almanac_text(almanac) dune_in(text) almanac_in(text)",
    "desk": "answers(text)",
}
METHODS = "blow(word,slope) hand(post,by) do(deeds) undo() dune() first() entries() kept_by(word) may() is_sure() " \
          "deeds() as_of(many) twin() log()"


def parts(row):
    """Pairs of a name and its list of arguments."""
    return [(name, [word for word in rest.rstrip(")").split(",") if word])
            for name, rest in (each.split("(") for each in row.split(" "))]


class Interface(unittest.TestCase):
    def check(self, function, names):
        told = inspect.signature(function).parameters.values()
        self.assertEqual([one.name for one in told], names, function)
        for one in told:
            self.assertEqual((one.kind, one.default), (one.POSITIONAL_OR_KEYWORD, one.empty), function)

    def test_functions(self):
        for file, row in FUNCTIONS.items():
            module = importlib.import_module(f"dunebooks.{file}")
            for name, names in parts(row):
                function = getattr(module, name)
                self.assertEqual(function.__module__, module.__name__)
                self.check(function, names)

    def test_the_yard(self):
        self.check(Yard, ["dune"])
        for name, names in parts(METHODS):
            self.assertIn(name, vars(Yard))
            self.check(vars(Yard)[name], ["self"] + names)
        for name in ("__eq__", "__len__", "__repr__"):
            self.assertIn(name, vars(Yard))


if __name__ == "__main__":
    unittest.main()
