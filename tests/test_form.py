"""The form of the package: the rules of the language that can be seen, and the interface."""

import ast
import builtins
import inspect
import importlib
import pathlib
import re
import unittest

FOLDER = pathlib.Path(__file__).resolve().parent.parent / "neverbrush"
FILES = sorted(FOLDER.glob("*.py"))
TREES = {path.stem: ast.parse(path.read_text(encoding="ascii")) for path in FILES}

BUILTINS = set("""len range enumerate zip min max sum abs sorted reversed int str bool list tuple dict set isinstance
ord repr any all divmod LookupError ValueError""".split())
METHODS = set("""append clear copy count endswith extend find get index insert isalnum isalpha isdigit islower isspace
isupper items join keys ljust lower lstrip partition pop remove replace reverse rfind rjust rpartition rsplit rstrip
setdefault split splitlines startswith strip update upper values zfill bit_length add discard""".split())
BARRED = set("""register mro elements open input law version_info with_traceback add_note attrgetter breakpoint builtins
compile copyright credits delattr dir eval exec exit gc globals help id importlib license locals methodcaller os quit
super vars sys type typing enum Enum Flag Generic Protocol ABC namedtuple map next iter hash""".split())
NODES = (ast.Yield, ast.YieldFrom, ast.GeneratorExp, ast.Global, ast.Nonlocal, ast.AsyncFunctionDef, ast.Await,
         ast.Try, ast.With, ast.Match, ast.NamedExpr, ast.Starred, ast.Lambda, ast.Div, ast.Pow, ast.Delete)
FROM_MATH = {"gcd", "comb"}

INTERFACE = {
    "errors": "NoCrossing(crossing) NoRoad(road) NoStretch(stretch) NothingDone() BadText(line) Broken(number) "
              "CanNot() TooMany() Unfit()",
    "signs": "words(text) text_of(words) number_of(word) word_of(number)",
    "cities": "is_city(thing) how_many(city) streets_of(city,crossing) next_one(city,crossing,way) "
              "ahead_one(city,crossing,side) beginnings(city) ends(city) links(city) by_links(many,east,south) "
              "reached(city,crossing) parts(city)",
    "floors": "of_cells(cells) of_points(points) rectangle(high,wide) ring(high,wide) line(word) line_of(city) "
              "points_of(city) are_points(city,points)",
    "roads": "is_road(city,thing) is_bent(city,road) passes(city,road) turns(city,road) road_of(city,table) "
             "behind(city,road) roads(city) straight_roads(city) how_many_roads(city) by_bends(city) "
             "road_at(city,number) road_number(city,road) through(city,crossing) longest(city)",
    "stretches": "is_stretch(city,thing) crossings_of(city,stretch) sum_along(city,stretch,table) stretches(city) "
                 "how_many_stretches(city) how_many_with(city,crossing) over_pieces(city,stretch) "
                 "under_pieces(city,stretch) lies_over(city,stretch,other) joined(city,stretch,way,other) "
                 "parted(city,stretch,number) goes(city,road,stretch) low_passes(city,road) high_passes(city,road)",
    "brushing": "common_parts(city,road,other) meetings(city,road,other) brushes(city,road,other) "
                "do_brush(city,road,other) crosses(city,road,other) passes_within(city,road,stretch) "
                "how_many_go(city,stretch,word) brushed_by(city,road) how_many_brushes(city) some_brushing(city,road)",
    "bags": "bag(city,table) is_bag(city,table,thing) is_some_bag(city,thing) table_of(city,bag) lot_of(city,table) "
            "how_many_in(city,table) on_pieces(city,table) beginnings_of(city,table) "
            "row_on(city,table,crossing,way) bag_of_sum(city,bag,other) bag_of_less(city,bag) "
            "are_one_lot(city,table,other) why_not_one(city,table,other) is_why_not_one(city,table,other,thing)",
    "lots": "is_lot(city,thing) is_full(city,thing) brushing_pair(city,roads) barred_by(city,lot,road) "
            "put_to(city,lot,road) goes_with(city,lot) least_lot(city) greatest_lot(city) finished(city,lot,word) "
            "full_lots(city) how_many_full(city) lots_by_size(city)",
    "forms": "forms(city,lot) is_forms(city,lot,thing) form_of(city,lot,road) counts_in(city,lot,table) "
             "told_back(city,lot,counts) stands(city,lot,table) why_out(city,lot,table) inner_table(city,lot) "
             "low_roads(city,lot) high_roads(city,lot) home(city,table)",
    "exchange": "newcomer(city,lot,road) exchanged(city,lot,road) exchange_of(city,lot,road) exchanges(city,lot) "
                "is_exchange(city,lot,thing) exchange_to(city,lot,other) resolved(city,road,other,stretch) "
                "wall_bag(city,lot,road) is_wall(city,thing) sides(city,lot)",
    "walks": "moments(city,table,other) lots_between(city,table,other) bag_then(city,table,other,moment) "
             "put(city,bag,crossing,number) gone_and_come(city,bag,crossing,number) "
             "first_put(city,bag,crossing,number) how_far(city,lot,other) exchanges_to(city,lot,other) "
             "by_far(city,lot) is_row(city,lot,other,thing)",
    "closed": "under(city,lot) above(city,lot) is_under(city,lot,stretch) is_above(city,lot,stretch) "
              "why_not_under(city,lot,stretch) why_not_above(city,lot,stretch) parting(city,lot,stretch) "
              "is_closed(city,thing) why_not_closed(city,stretches) closure(city,stretches) "
              "is_in_closure(city,stretches,stretch) how_joined(city,stretches,stretch) "
              "lot_of_closed(city,stretches) closed_sets(city)",
    "seams": "seams(city,lot) rises(city,lot) is_fitting(city,thing) unfit_pair(city,stretches) "
             "why_over(city,stretch,other) may_join(city,stretches) lot_of_seams(city,stretches) "
             "lot_of_rises(city,stretches) sent_on(city,lot) sent_back(city,lot) ring_of(city,lot) "
             "times_sent(city,lot,other) fitting_sets(city)",
    "climbs": "led_up(city,lot,stretch) led_down(city,lot,stretch) climbed(city,lot,climb) is_below(city,lot,other) "
              "why_not_below(city,lot,other) is_why_not_below(city,lot,other,thing) climb(city,lot,other) "
              "is_climb(city,lot,other,thing) meet(city,lot,other) join(city,lot,other) over_ring(city) "
              "is_over_ring(city,thing) climb_lengths(city,lot,other) longest_climb(city)",
    "counts": "by_seams(city) roads_by_lots(city) seams_by_lots(city) numbered_lot(city,number) lot_number(city,lot) "
              "drawn(city,figures) rectangle_lots(high,wide) rectangle_seams(high,wide)",
    "lines": "roads_of_places(word,places) places_of(word,road) is_ordering(word,thing) lot_of_ordering(word,ordering) "
             "ordering_of(word,lot) orderings_of(word,lot) tell_one(word,ordering,other) sorted_bag(word,table) "
             "count_line(word) diagonal_of(many,road) road_of_diagonal(many,diagonal) triangles_of(many,lot) "
             "lot_of_triangles(many,triangles)",
    "cuts": "cut(city,crossing,way) kept_crossings(city,crossing,way) kept_table(city,crossing,way,table) "
            "broken_road(city,crossing,way,road) broken_bag(city,crossing,way,bag) is_gone(city,crossing,way,stretch) "
            "stretch_ahead(city,crossing,way,stretch) lot_behind(city,crossing,way,lot) "
            "least_ahead(city,crossing,way,lot) greatest_ahead(city,crossing,way,lot) "
            "lots_ahead(city,crossing,way,lot) beside(city,other) lot_of_both(city,other,lot,more) "
            "lots_of_both(city,other,lot)",
    "solid": "height(city,road) corner(city,lot) worth(city,table,prices) best_worth(city,prices) "
             "is_best(city,lot,prices) best_lot(city,prices) edge(city,lot,road) is_corner(city,thing) "
             "lot_at(city,table)",
    "told": "told(city,lot) told_lots(city,lot) how_many_told(city,lot) let_go(city,lot,stretches) "
            "with_seams(city,stretches) least_above(city,stretches) window(city,crossings) seen(city,lot,crossings)",
    "moved": "exchanged_sides(city) turned_about(city) road_moved(city,road,way) stretch_moved(city,stretch,way) "
             "table_moved(city,table,way) lot_moved(city,lot,way) renamed(city,numbers) are_numbers(city,thing) "
             "renamed_back(numbers) are_alike(city,other) numbers_to(city,other) are_numbers_to(city,other,thing) "
             "how_many_selves(city)",
    "texts": "is_sheet(thing) sheet_text(sheet) read_sheet(text) city_text(city) read_city(text) "
             "road_text(city,road) read_road(city,text) picture(cells,road) read_picture(text)",
    "judge": "is_claim(thing) is_so(claim) paper_against(claim) is_paper_against(claim,thing) reason_for(claim) "
             "is_reason_for(claim,thing) first_fallen(claims)",
    "desk": "Desk(city)",
}


def functions(tree):
    return [node for node in ast.walk(tree) if isinstance(node, ast.FunctionDef)]


def imports(tree):
    return [node for node in ast.walk(tree) if isinstance(node, (ast.Import, ast.ImportFrom))]


def bound(node):
    """All names that node binds: parameters, targets."""
    found = {own.arg for own in ast.walk(node) if isinstance(own, ast.arg)}
    return found | {own.id for own in ast.walk(node) if isinstance(own, ast.Name) and isinstance(own.ctx, ast.Store)}


def defined(tree):
    return {node.name for node in tree.body if isinstance(node, (ast.FunctionDef, ast.ClassDef))}


class Form(unittest.TestCase):
    def test_folder(self):
        others = [path.name for path in FOLDER.iterdir() if path.suffix != ".py" and path.name != "__pycache__"]
        self.assertEqual(others, [])
        self.assertIn("__init__", TREES)

    def test_sizes_and_signs(self):
        for path in FILES:
            rows = path.read_text(encoding="ascii").split("\n")
            with self.subTest(path.name):
                self.assertLessEqual(len(rows) - 1, 399)
                self.assertLessEqual(max(len(row) for row in rows), 120)
                self.assertTrue(all(32 <= ord(sign) <= 126 for row in rows for sign in row))
                self.assertNotRegex(path.read_text(), r"(?<![A-Za-z0-9_])_wall|_WallAttr")
        for name, tree in TREES.items():
            for node in functions(tree):
                with self.subTest(name, function=node.name):
                    self.assertLessEqual(node.end_lineno - node.lineno + 1, 40)
                    self.assertTrue(ast.get_docstring(node) or node.name == "__init__")
                    self.assertEqual(node.decorator_list, [])

    def test_imports(self):
        edges = {}
        for name, tree in TREES.items():
            edges[name] = set()
            for node in imports(tree):
                with self.subTest(name, line=node.lineno):
                    self.assertIsInstance(node, ast.ImportFrom)
                    package, _, module = node.module.partition(".")
                    if package == "math":
                        self.assertLessEqual({alias.name for alias in node.names}, FROM_MATH)
                        self.assertEqual({alias.asname for alias in node.names}, {None})
                        continue
                    self.assertEqual((package, node.level), ("neverbrush", 0))
                    own = TREES[module]
                    plain = {target.id for row in own.body if isinstance(row, ast.Assign) for target in row.targets}
                    for alias in node.names:
                        self.assertIsNone(alias.asname)
                        self.assertIn(alias.name, defined(own) | plain)
                    edges[name].add(module)
        while edges:
            free = [name for name in edges if not edges[name] & set(edges)]
            self.assertTrue(free, "files import in a ring")
            edges = {name: edges[name] for name in edges if name not in free}

    def test_imports_are_used(self):
        for name, tree in TREES.items():
            used = {node.id for node in ast.walk(tree) if isinstance(node, ast.Name)}
            for node in imports(tree):
                for alias in node.names:
                    with self.subTest(name, alias=alias.name):
                        self.assertIn(alias.name, used)

    def test_names(self):
        for name, tree in TREES.items():
            taken = {alias.name for node in imports(tree) for alias in node.names}
            taken |= {node.name for node in ast.walk(tree) if isinstance(node, ast.ClassDef)}
            for node in functions(tree):
                with self.subTest(name, function=node.name):
                    self.assertFalse(bound(node) & (taken | BARRED | set(dir(builtins))))
                    self.assertNotIn(node.name, set(dir(builtins)) | BARRED)
                    self.assertTrue(all(re.fullmatch("_|_?[A-Za-z][A-Za-z0-9_]*", own) for own in bound(node)))
                    loads = [own.id for own in ast.walk(node) if isinstance(own, ast.Name)
                             and isinstance(own.ctx, ast.Load)]
                    self.assertNotIn("_", loads)
            rows = [node for node in tree.body if isinstance(node, ast.Assign)]
            names = [target.id for node in rows for target in node.targets]
            self.assertEqual(len(names), len(set(names)))
            self.assertFalse(set(names) & (set(dir(builtins)) | defined(tree) | taken))

    def test_statements(self):
        for name, tree in TREES.items():
            for node in tree.body:
                good = (ast.ImportFrom, ast.FunctionDef, ast.ClassDef, ast.Assign)
                is_text = isinstance(node, ast.Expr) and isinstance(node.value, ast.Constant)
                self.assertTrue(isinstance(node, good) or is_text)
            for node in ast.walk(tree):
                with self.subTest(name, line=getattr(node, "lineno", 0)):
                    self.assertNotIsInstance(node, NODES)
                    self.assertFalse(isinstance(node, ast.Constant) and isinstance(node.value, (float, bytes)))
                    self.assertFalse(isinstance(node, ast.Constant) and "%" in str(node.value))
                    if isinstance(node, ast.Raise):
                        self.assertIsInstance(node.exc, ast.Call)
                    if isinstance(node, ast.Compare):
                        for sign, other in zip(node.ops, node.comparators):
                            if isinstance(sign, (ast.Is, ast.IsNot)):
                                self.assertIsInstance(other, ast.Constant)
            for node in functions(tree):
                inner = [own for own in functions(node) if own is not node]
                self.assertEqual(inner, [])

    def test_calls(self):
        methods = {own.name for tree in TREES.values() for node in tree.body if isinstance(node, ast.ClassDef)
                   for own in node.body if isinstance(own, ast.FunctionDef)}
        self.assertFalse(methods & METHODS)
        for name, tree in TREES.items():
            known = defined(tree) | {alias.name for node in imports(tree) for alias in node.names}
            for node in ast.walk(tree):
                if not isinstance(node, ast.Call):
                    continue
                with self.subTest(name, line=node.lineno):
                    if isinstance(node.func, ast.Name):
                        self.assertIn(node.func.id, known | BUILTINS)
                    else:
                        self.assertIn(node.func.attr, METHODS | methods)
                        self.assertEqual(node.keywords, [])

    def test_no_name_is_a_method_and_an_attribute_of_a_class(self):
        for name, tree in TREES.items():
            for node in tree.body:
                if isinstance(node, ast.ClassDef):
                    own = [row.name for row in node.body if isinstance(row, ast.FunctionDef)]
                    stored = {row.attr for row in ast.walk(node)
                              if isinstance(row, ast.Attribute) and isinstance(row.ctx, ast.Store)}
                    with self.subTest(name, kind=node.name):
                        self.assertEqual(len(own), len(set(own)))
                        self.assertFalse(stored & (set(own) | METHODS))

    def test_no_sets_are_built(self):
        for name, tree in TREES.items():
            for node in ast.walk(tree):
                with self.subTest(name, line=getattr(node, "lineno", 0)):
                    self.assertNotIsInstance(node, (ast.Set, ast.SetComp))

    def test_views_are_iterated_at_once(self):
        views = {"zip", "enumerate", "reversed", "range"}
        for name, tree in TREES.items():
            heads = [node.iter for node in ast.walk(tree) if isinstance(node, (ast.For, ast.comprehension))]
            heads += [own for node in ast.walk(tree) if isinstance(node, ast.Call) and isinstance(node.func, ast.Name)
                      and node.func.id in {"list", "tuple", "reversed"} for own in node.args]
            for node in ast.walk(tree):
                if isinstance(node, ast.Call) and isinstance(node.func, ast.Name) and node.func.id in views:
                    with self.subTest(name, line=node.lineno):
                        self.assertTrue(any(node is own for own in heads))


class Interface(unittest.TestCase):
    def test_each_name_stands_in_its_file_with_its_arguments(self):
        for module, told in INTERFACE.items():
            own = importlib.import_module("neverbrush." + module)
            for name, arguments in re.findall(r"(\w+)\(([\w,]*)\)", told):
                with self.subTest(module, name=name):
                    self.assertIn(name, defined(TREES[module]))
                    self.assertEqual(getattr(own, name).__module__, "neverbrush." + module)
                    wanted = [word for word in arguments.split(",") if word]
                    if module == "errors":
                        kind = getattr(own, name)
                        made = kind(*range(len(wanted)))
                        self.assertEqual(list(vars(made)), wanted)
                    else:
                        self.assertEqual(list(inspect.signature(getattr(own, name)).parameters), wanted)

    def test_methods_stand_in_the_class_itself(self):
        desk, = [node for node in TREES["desk"].body if isinstance(node, ast.ClassDef)]
        self.assertEqual((desk.name, desk.bases), ("Desk", []))
        told = {node.name: [own.arg for own in node.args.args] for node in desk.body if isinstance(node, ast.FunctionDef)}
        for name, arguments in (("say", ["text"]), ("city", []), ("lot", []), ("table", []), ("undo", []), ("redo", []),
                                ("twin", []), ("__eq__", ["other"]), ("__init__", ["city"])):
            self.assertEqual(told[name], ["self"] + arguments)

    def test_package_binds_nothing_else(self):
        self.assertEqual([type(node) for node in TREES["__init__"].body], [ast.Expr])


if __name__ == "__main__":
    unittest.main()
