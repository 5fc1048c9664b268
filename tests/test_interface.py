"""The names and arguments of the interface, as they are told."""

import importlib
import inspect
import unittest

FUNCTIONS = {
    "rows": "shown_row(row) read_row(text) words_of(row) read_names(row)",
    "texts": "shown(parts) read(text)",
    "net": "check(parts) maker(parts,part,name) brings(parts,part) asks(parts,part) order(parts,root)",
    "knots": "reach(parts,some) knots(parts)",
    "run": "run(parts,root,numbers)",
    "papers": "sure(parts,part,row,name) loud(parts,part,row) papers(parts,beginnings)",
    "thinned": "live(parts,beginnings) thinned(parts,beginnings)",
    "names": "new_names(parts) renamed(parts,part,row)",
    "flat": "flat(parts,root)",
    "groups": "roots(parts,beginnings) colour(parts,some,part) groups(parts,beginnings)",
    "cuts": "price(groups,toll,cut) tight(groups) single(groups) cheapest(groups,toll) table(groups,toll)",
    "bundles": "bundle(parts,beginnings,toll=4,way='cheapest')",
    "play": "play(bundle,root,numbers,ahead=False)",
    "codes": "coded(map_of_packs) decoded(texts)",
    "maps": "map_of(parts,bundle) back(map_of_packs,pack,row,column)",
    "layers": "read_layers(text) broken(parts,folders,rules)",
    "rings": "tangles(parts) ring_table(parts,tangle) fewest(parts)",
}
CLASSES = {
    ("run", "Walk"): "()",
    ("run", "PartsWalk"): "(parts)",
    ("play", "PacksWalk"): "(bundle,ahead=False)",
}
METHODS = "rows_of(self,part) key_of(self,part,name) loads_of(self,part) ahead_of(self,root) go(self,root,numbers)"


def arguments(called):
    return str(inspect.signature(called)).replace(" ", "")


class Interface(unittest.TestCase):
    def hold(self, holder, text):
        for told in text.split():
            name = told.partition("(")[0]
            with self.subTest(name):
                self.assertEqual(name + arguments(getattr(holder, name)), told)

    def test_functions(self):
        for module, text in FUNCTIONS.items():
            self.hold(importlib.import_module("bundlehouse." + module), text)

    def test_classes(self):
        for (module, name), expected in CLASSES.items():
            made = getattr(importlib.import_module("bundlehouse." + module), name)
            self.assertEqual(arguments(made), expected)
            self.hold(made, METHODS)


if __name__ == "__main__":
    unittest.main()
