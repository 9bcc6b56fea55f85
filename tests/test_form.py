"""The rules of LANGUAGE.md, as far as the text of a file shows them.

The checks are stricter than the rules in places: they allow what this package uses.
"""

import ast
import builtins
import os
import re
import unittest

import alreadytold

FOLDER = os.path.dirname(alreadytold.__file__)
LIBRARY = {"math": {"gcd", "lcm", "isqrt", "comb", "perm", "factorial"}, "heapq": {"heappush", "heappop", "heapify"},
           "itertools": {"combinations", "permutations", "product"}}
BUILTINS = {"len", "range", "enumerate", "zip", "min", "max", "sum", "abs", "sorted", "reversed", "int", "str", "bool",
            "list", "tuple", "dict", "set", "isinstance", "ord", "repr", "any", "all", "divmod", "ValueError"}
METHODS = set("""append clear copy count endswith extend find get index insert isalnum isalpha isdigit islower isspace
    isupper items join keys ljust lower lstrip partition pop remove replace reverse rfind rjust rpartition rsplit rstrip
    setdefault split splitlines startswith strip update upper values zfill bit_length add discard""".split())
CHANGING = {"append", "clear", "extend", "insert", "pop", "remove", "reverse", "setdefault", "update"}
DUNDER = {"__init__", "__eq__", "__and__", "__or__", "__invert__", "__contains__"}
ONCE = {"zip", "enumerate", "reversed", "range", "items", "keys", "values"}
TAKERS = {"list", "tuple", "dict", "sorted", "sum", "any", "all", "enumerate", "zip", "min", "max"}
KEYWORDS = {"sorted": {"key", "reverse"}, "min": {"key", "default"}, "max": {"key", "default"}, "sum": {"start"},
            "enumerate": {"start"}, "zip": {"strict"}}
NOWHERE = {"register", "mro", "elements", "open", "input", "law", "version_info", "with_traceback", "add_note"}
NO_NAMES = set("""attrgetter breakpoint builtins compile copyright credits delattr dir eval exec exit gc getattr globals
    hasattr help id importlib license locals methodcaller os quit setattr super type vars sys""".split())
WORDS = re.compile(r"\b(type|typing|enum|Enum|Generic|Protocol|ABC|namedtuple|abstractmethod)\b|dataclass|overload")


def sources():
    for name in sorted(os.listdir(FOLDER)):
        if name != "__pycache__":
            with open(os.path.join(FOLDER, name), encoding="utf-8") as file:
                yield name, file.read()


def trees():
    for name, text in sources():
        tree = ast.parse(text)
        for parent in ast.walk(tree):
            for child in ast.iter_child_nodes(parent):
                child.parent = parent
        yield name, tree


def walk(tree, *kinds):
    return [node for node in ast.walk(tree) if isinstance(node, kinds)]


def functions_of(tree):
    return walk(tree, ast.FunctionDef)


def docstrings(tree):
    holders = walk(tree, ast.Module, ast.ClassDef, ast.FunctionDef)
    return [holder.body[0].value for holder in holders if ast.get_docstring(holder, clean=False) is not None]


def bound_names(tree):
    """All names that functions bind: parameters, targets, nested functions."""
    names = [(node.arg, node) for node in walk(tree, ast.arg)]
    names += [(node.id, node) for node in walk(tree, ast.Name) if isinstance(node.ctx, ast.Store)]
    names += [(node.name, node) for node in walk(tree, ast.ExceptHandler) if node.name]
    return names


def top_names(tree):
    names = []
    for node in tree.body:
        if isinstance(node, (ast.FunctionDef, ast.ClassDef)):
            names.append(node.name)
        elif isinstance(node, ast.ImportFrom):
            names += [alias.name for alias in node.names]
        elif isinstance(node, ast.Assign):
            names += [target.id for target in node.targets]
    return names


def called_name(node):
    if isinstance(node, ast.Call):
        if isinstance(node.func, ast.Name):
            return node.func.id
        if isinstance(node.func, ast.Attribute):
            return node.func.attr
    return None


def is_iterated_at_once(node):
    parent = node.parent
    if isinstance(parent, (ast.For, ast.comprehension)):
        return parent.iter is node
    if isinstance(parent, ast.YieldFrom):
        return True
    return isinstance(parent, ast.Call) and isinstance(parent.func, ast.Name) and parent.func.id in TAKERS


class Form(unittest.TestCase):
    def each(self, *kinds):
        for name, tree in trees():
            for node in walk(tree, *kinds):
                yield f"{name}:{getattr(node, 'lineno', 0)}", node

    def test_files_and_sizes(self):
        for name, text in sources():
            self.assertRegex(name, r"^(__init__|[a-z][a-z0-9_]*)\.py$")
            self.assertLess(text.count("\n"), 400, name)
            self.assertTrue(text.endswith("\n") and not text.endswith("\n\n"), name)
            self.assertEqual([sign for sign in text if not (" " <= sign <= "~" or sign == "\n")], [], name)
            for number, line in enumerate(text.split("\n"), 1):
                self.assertLessEqual(len(line), 120, f"{name}:{number}")
                self.assertEqual(line, line.rstrip(), f"{name}:{number}")

    def test_functions_are_short(self):
        for place, node in self.each(ast.FunctionDef):
            self.assertLessEqual(node.end_lineno - node.lineno + 1, 40, place)

    def test_no_other_statements_and_expressions(self):
        barred = (ast.AsyncFunctionDef, ast.Global, ast.Nonlocal, ast.Lambda, ast.GeneratorExp, ast.SetComp, ast.Set,
                  ast.NamedExpr, ast.Await, ast.Import, ast.Starred, ast.AnnAssign, ast.With, ast.Match, ast.Delete,
                  ast.Div, ast.MatMult)
        for place, node in self.each(*barred):
            self.fail(f"{place} {type(node).__name__}")
        for place, node in self.each(ast.Constant):
            self.assertNotIsInstance(node.value, (float, complex, bytes), place)

    def test_module_level(self):
        for name, tree in trees():
            for place, node in enumerate(tree.body):
                if isinstance(node, ast.Expr):
                    self.assertTrue(place == 0 and isinstance(node.value, ast.Constant), name)
                else:
                    self.assertIsInstance(node, (ast.ImportFrom, ast.FunctionDef, ast.ClassDef, ast.Assign), name)
                if isinstance(node, ast.Assign):
                    self.assertEqual(len(node.targets), 1)
                    self.assertIsInstance(node.targets[0], ast.Name)
                    self.assertEqual(walk(node.value, ast.Call, ast.List, ast.Dict), [], name)
            names = top_names(tree)
            self.assertEqual(sorted(names), sorted(set(names)), name)
            imports = [isinstance(node, ast.ImportFrom) for node in tree.body[1:]]
            self.assertEqual(imports, sorted(imports, reverse=True), name)

    def test_imports(self):
        defined = {}
        leads = {}
        for name, tree in trees():
            module = "alreadytold." + name[:-3]
            defined[module] = [node.name for node in tree.body if isinstance(node, (ast.FunctionDef, ast.ClassDef))]
            defined[module] += [node.targets[0].id for node in tree.body if isinstance(node, ast.Assign)]
        for name, tree in trees():
            used = {node.id for node in walk(tree, ast.Name)}
            goals = leads.setdefault("alreadytold." + name[:-3], [])
            for node in walk(tree, ast.ImportFrom):
                self.assertEqual(node.level, 0)
                for alias in node.names:
                    self.assertIsNone(alias.asname)
                    self.assertIn(alias.name, used, f"{name} does not use {alias.name}")
                    known = LIBRARY.get(node.module) or defined[node.module]
                    self.assertIn(alias.name, known, name)
                    self.assertFalse(alias.name.startswith("_"), name)
                if node.module in defined:
                    goals.append(node.module)
        self.check_no_rounds(leads)

    def check_no_rounds(self, leads):
        done = []
        while len(done) < len(leads):
            ready = [name for name in leads if name not in done and all(goal in done for goal in leads[name])]
            self.assertTrue(ready, f"imports go round: {set(leads) - set(done)}")
            done += ready

    def test_names(self):
        known = set(dir(builtins))
        for name, tree in trees():
            top = set(top_names(tree))
            for bound, node in bound_names(tree):
                place = f"{name}:{node.lineno} {bound}"
                self.assertNotIn(bound, known, place)
                self.assertNotIn(bound, NO_NAMES | NOWHERE, place)
                self.assertRegex(bound, r"^(_|_?[a-zA-Z][a-zA-Z0-9_]*)$", place)
                in_function = any(node in walk(function, ast.AST) for function in functions_of(tree))
                if in_function:
                    self.assertNotIn(bound, top, place)
            for node in walk(tree, ast.FunctionDef, ast.ClassDef):
                self.assertTrue(node.name in DUNDER or not node.name.startswith("__"), node.name)
                self.assertNotIn(node.name, known | NO_NAMES | NOWHERE)
            for node in walk(tree, ast.Attribute):
                self.assertNotIn(node.attr, NOWHERE | {"format", "args", "sort"})

    def test_only_these_builtins_are_used(self):
        for name, tree in trees():
            own = set(top_names(tree)) | {bound for bound, _ in bound_names(tree)}
            for node in walk(tree, ast.Name):
                if node.id not in own:
                    self.assertIn(node.id, BUILTINS | {"property"}, f"{name}:{node.lineno}")
                if node.id in BUILTINS - {"ValueError"} and node.id not in own:
                    call = isinstance(node.parent, ast.Call) and node.parent.func is node
                    kinds = node.parent.elts if isinstance(node.parent, ast.Tuple) else [node]
                    tested = node.parent.parent if isinstance(node.parent, ast.Tuple) else node.parent
                    self.assertTrue(call or (called_name(tested) == "isinstance" and kinds), f"{name}:{node.lineno}")
                if node.id == "_":
                    self.assertIsInstance(node.ctx, ast.Store, f"{name}:{node.lineno}")

    def test_calls(self):
        own = {node.name for _, tree in trees() for node in functions_of(tree)}
        for place, node in self.each(ast.Call):
            name = called_name(node)
            if isinstance(node.func, ast.Attribute):
                self.assertIn(name, METHODS | own, place)
                if name not in own:
                    self.assertEqual(node.keywords, [], place)
            elif name in BUILTINS:
                self.assertLessEqual({keyword.arg for keyword in node.keywords}, KEYWORDS.get(name, set()), place)
            self.assertIsInstance(node.func, (ast.Name, ast.Attribute), place)

    def test_methods_are_called_where_they_stand(self):
        for place, node in self.each(ast.Attribute):
            if node.attr in METHODS - {"index", "count", "find", "get", "copy", "add"}:
                self.assertTrue(isinstance(node.parent, ast.Call) and node.parent.func is node, place)

    def test_classes(self):
        classes = {node.name for _, tree in trees() for node in walk(tree, ast.ClassDef)}
        for place, node in self.each(ast.ClassDef):
            self.assertEqual(node.decorator_list, [], place)
            self.assertEqual(node.keywords, [], place)
            for row in node.body:
                doc = isinstance(row, ast.Expr) and isinstance(row.value, ast.Constant)
                self.assertTrue(doc or isinstance(row, ast.FunctionDef), place)
            methods = [row.name for row in node.body if isinstance(row, ast.FunctionDef)]
            self.assertEqual(len(methods), len(set(methods)), place)
            stored = {target.attr for target in walk(node, ast.Attribute) if isinstance(target.ctx, ast.Store)}
            self.assertEqual(stored & set(methods), set(), place)
        for name, tree in trees():
            for node in walk(tree, ast.Name):
                if node.id in classes and isinstance(node.ctx, ast.Load):
                    parent = node.parent
                    right = (isinstance(parent, ast.Call) and (parent.func is node or called_name(parent) == "isinstance")
                             or isinstance(parent, (ast.ClassDef, ast.ExceptHandler, ast.Raise)))
                    self.assertTrue(right, f"{name}:{node.lineno}")
        for place, node in self.each(ast.FunctionDef):
            for decorator in node.decorator_list:
                self.assertTrue(isinstance(decorator, ast.Name) and decorator.id == "property", place)
            if node.name == "__eq__":
                self.assertEqual([type(row) for row in node.body], [ast.Return], place)

    def test_tries_and_raises(self):
        errors = {node.name for name, tree in trees() if name == "errors.py" for node in walk(tree, ast.ClassDef)}
        for place, node in self.each(ast.ExceptHandler):
            self.assertTrue(isinstance(node.type, ast.Name) and node.type.id in errors | {"KeyError"}, place)
        for place, node in self.each(ast.Raise):
            self.assertTrue(isinstance(node.exc, ast.Call) and called_name(node.exc) in errors, place)
            self.assertIsNone(node.cause, place)
            self.assertEqual(node.exc.keywords, [], place)
        for place, node in self.each(ast.Try):
            self.assertEqual(node.orelse, [], place)
            for row in node.finalbody:
                # Names, attributes and None are put into names and attributes, nothing else.
                self.assertIsInstance(row, ast.Assign, place)
                for part in ast.walk(row):
                    self.assertIsInstance(part, (ast.Assign, ast.Tuple, ast.Name, ast.Attribute, ast.Load, ast.Store,
                                                 ast.Constant), place)
        for place, node in self.each(ast.Yield, ast.YieldFrom):
            self.assertIsInstance(node.parent, ast.Expr, place)
            above = node
            while not isinstance(above, ast.FunctionDef):
                above = above.parent
                self.assertNotIsInstance(above, ast.Try, place)

    def test_comparisons_by_is(self):
        for place, node in self.each(ast.Compare):
            for sign, thing in zip(node.ops, node.comparators):
                if isinstance(sign, (ast.Is, ast.IsNot)):
                    self.assertTrue(isinstance(thing, ast.Constant) and thing.value in (None, True, False), place)

    def test_iterated_at_once(self):
        generators = set()
        for _, tree in trees():
            for node in functions_of(tree):
                if walk(node, ast.Yield, ast.YieldFrom):
                    generators.add(node.name)
        named = [node.name for _, tree in trees() for node in functions_of(tree)]
        for name in generators:
            self.assertEqual(named.count(name), 1, name)
        for place, node in self.each(ast.Call):
            if called_name(node) in ONCE | generators:
                ranged = called_name(node) == "range" and isinstance(node.parent, ast.Compare)
                self.assertTrue(is_iterated_at_once(node) or ranged, place)
            if called_name(node) in generators:
                for thing in node.args:
                    self.assertIsInstance(thing, (ast.Name, ast.Attribute, ast.Constant), place)
            if called_name(node) in ("reversed", "len") and node.args:
                self.assertNotIn(called_name(node.args[0]), ONCE | generators, place)
        for name, tree in trees():
            for node in walk(tree, ast.Name):
                if node.id in generators and isinstance(node.ctx, ast.Load):
                    self.assertTrue(isinstance(node.parent, ast.Call) and node.parent.func is node, name)

    def test_what_is_iterated_over_is_not_changed(self):
        for place, node in self.each(ast.For):
            roots = {ast.dump(part) for part in walk(node.iter, ast.Name, ast.Attribute)}
            for row in node.body:
                for part in ast.walk(row):
                    if isinstance(part, ast.Call) and called_name(part) in CHANGING:
                        self.assertNotIn(ast.dump(part.func.value), roots, place)
                    if isinstance(part, (ast.Assign, ast.AugAssign)):
                        targets = part.targets if isinstance(part, ast.Assign) else [part.target]
                        for target in targets:
                            if isinstance(target, ast.Subscript):
                                self.assertNotIn(ast.dump(target.value), roots, place)

    def runs_of_operators(self):
        """All functions that operators and properties run, by name: what they call, and so on."""
        found = {}
        for _, tree in trees():
            for node in walk(tree, ast.ClassDef):
                found[node.name] = [row for row in node.body if isinstance(row, ast.FunctionDef) and row.name == "__init__"]
            for node in functions_of(tree):
                if node.name != "__init__":
                    found.setdefault(node.name, []).append(node)
        runs = [node for nodes in found.values() for node in nodes
                if node.name != "__init__" and (node.decorator_list or node.name.startswith("__"))]
        for run in runs:
            called = [called_name(node) for node in walk(run, ast.Call)]
            runs += [node for name in called for node in found.get(name, []) if node not in runs]
        return runs

    def test_operators_and_properties_change_nothing(self):
        runs = self.runs_of_operators()
        self.assertGreater(len(runs), 30)
        for run in runs:
            self.assertEqual(walk(run, ast.Yield, ast.YieldFrom), [], run.name)
            given = {}
            for node in walk(run, ast.Assign):
                for target in node.targets:
                    for name in [name for name in walk(target, ast.Name) if isinstance(name.ctx, ast.Store)]:
                        own = target is name and isinstance(node.value, (ast.List, ast.ListComp, ast.Dict, ast.DictComp))
                        given[name.id] = own and given.get(name.id, True)
            for node in walk(run, ast.Assign, ast.AugAssign):
                for target in node.targets if isinstance(node, ast.Assign) else [node.target]:
                    if isinstance(target, ast.Attribute):
                        self.assertEqual((run.name, target.value.id), ("__init__", "self"))
                    if isinstance(target, ast.Subscript):
                        self.assertTrue(given[target.value.id], run.name)
                if isinstance(node, ast.AugAssign):
                    self.assertTrue(isinstance(node.op, ast.Add) and isinstance(node.value, ast.Constant), run.name)
            for node in walk(run, ast.Call):
                if isinstance(node.func, ast.Attribute) and called_name(node) in CHANGING:
                    self.assertTrue(given[node.func.value.id], run.name)

    def test_what_operators_ask_of_the_package(self):
        for place, node in self.each(ast.Call):
            if called_name(node) in ("sorted", "min", "max", "any", "all", "sum"):
                for thing in node.args:
                    self.assertNotIn(called_name(thing), ("zip", "enumerate", "map"), place)
            self.assertFalse(called_name(node) in DUNDER and called_name(node) != "__init__", place)
        for place, node in self.each(ast.FunctionDef):
            if node.name in DUNDER:
                kept = [row for row in walk(node, ast.Assign) if called_name(row.value) in ONCE]
                self.assertEqual(kept, [], place)
                self.assertEqual(node.args.defaults if node.name != "__init__" else [], [], place)
                many = {"__init__": None, "__invert__": 1}.get(node.name, 2)
                self.assertIn(many, (None, len(node.args.args)), place)

    def test_sets(self):
        for place, node in self.each(ast.Call):
            if called_name(node) == "set":
                parent = node.parent
                taken = called_name(parent) in ("sorted", "len") and len(parent.args) == 1 and not parent.keywords
                self.assertTrue(taken, place)

    def test_exponents(self):
        for place, node in self.each(ast.BinOp):
            if isinstance(node.op, ast.Pow):
                self.assertTrue(isinstance(node.right, ast.Constant) and 0 <= node.right.value <= 64, place)
        for place, node in self.each(ast.Constant):
            if isinstance(node.value, int):
                self.assertLess(abs(node.value), 10 ** 100, place)

    def test_strings(self):
        for name, tree in trees():
            docs = docstrings(tree)
            for node in walk(tree, ast.Constant):
                if isinstance(node.value, str):
                    self.assertNotIn("%", node.value, name)
                    if node not in docs:
                        self.assertIsNone(WORDS.search(node.value), name)
            for node in walk(tree, ast.JoinedStr):
                self.assertEqual(node.lineno, node.end_lineno)
                for part in walk(node, ast.FormattedValue):
                    self.assertEqual([thing for thing in walk(part.value, ast.Constant)
                                      if isinstance(thing.value, str)], [])
                    self.assertIsNone(part.format_spec)
        for name, text in sources():
            for escape in re.findall(r"\\.", text):
                self.assertIn(escape, ("\\n", "\\t", "\\\\", '\\"', "\\'"), name)

    def test_comprehensions(self):
        for place, node in self.each(ast.ListComp, ast.DictComp):
            bound = {part.id for generator in node.generators for part in walk(generator.target, ast.Name)} - {"_"}
            outer = node.parent
            while outer is not None:
                if isinstance(outer, (ast.ListComp, ast.DictComp)):
                    names = {part.id for generator in outer.generators for part in walk(generator.target, ast.Name)}
                    self.assertEqual(bound & names, set(), place)
                outer = getattr(outer, "parent", None)

    def test_nested_comprehensions_take_names_of_their_own(self):
        kinds = (ast.ListComp, ast.DictComp)
        for place, function in self.each(ast.FunctionDef):
            inside = {id(part) for node in walk(function, *kinds) for part in ast.walk(node)}
            assigned = {node.id for node in walk(function, ast.Name)
                        if isinstance(node.ctx, ast.Store) and id(node) not in inside}
            for node in walk(function, *kinds):
                for part in walk(node, *kinds):
                    if part is not node:
                        bound = {name.id for generator in part.generators for name in walk(generator.target, ast.Name)}
                        self.assertEqual((bound - {"_"}) & assigned, set(), place)

    def test_private_names_stay_in_their_file(self):
        for name, tree in trees():
            own = set(top_names(tree))
            for node in walk(tree, ast.Name):
                if node.id.startswith("_") and node.id != "_" and isinstance(node.ctx, ast.Load):
                    self.assertIn(node.id, own, name)


class Interface(unittest.TestCase):
    LISTED = {
        "ratios": "ZERO ONE is_whole is_ratio make_ratio plus minus times over compare sum_of ratio_text",
        "wires": "is_name is_wire is_filling count_fillings fillings_of filling_number filling_by_number",
        "boxes": "Box",
        "charts": "place_of check_wire maker_of check_ins check_post check_sure posts_of all_ins Chart",
        "working": "worths_at worked",
        "along": "renamed_chart exchanged_worths ordered_chart later_chart",
        "joining": "joined_charts",
        "charttext": "box_text chart_text read_chart",
        "stories": "all_stories stories_of_post count_stories story_by_number number_of_story boxes_against story_fault",
        "tellings": "tells story_sure quarrels_of why_quarrel walk_from Sure Two Walk",
        "tables": "check_table closed_lots lot_shares lot_beats",
        "turning": "turning_table check_shares shares_after mean_shares_after bounds_after",
        "rings": "check_lot rings_of beats_of rings_every turns_to_rings shortest_walk ring_fault only_ring meeting_of "
                 "OneRing TwoRings Meeting",
        "staying": "own_shares mixed_shares mixture_of own_shares_every shares_stay lasting_posts",
        "spans": "outs_of span_of_outs staying_with staying_fault Span",
        "counts": "Counts",
        "drawing": "counts_of all_in draw_in draw_all same_lets",
        "surroundings": "check_surrounding counts_around number_around charts_alike parting_chart parting_fault Parted",
        "onebox": "one_box one_box_fault",
        "slips": "even_shares check_slip slipped turns_sum",
        "seldom": "ends_in ends_table ring_weights seldom near_seldom lean",
        "single": "changes_of single_slipped change_table apart_lots single differing_ins",
        "leastslips": "changes_needed slip_way way_fault least_slips tree_costs last_rings",
        "grounding": "check_told known_rounds known_worths letter_waves first_ungrounded self_made",
        "reasons": "reasons_for reasons_fault least_lots withheld_lots",
        "lefts": "struck_rounds left_worths",
        "crowds": "crowd_for crowd_fault Crowd",
        "keyed": "is_key fewest_keys sent_back keyed_stories",
        "sureouts": "ring_worths sure_everywhere sure_outs unsure_ins is_untouched Differ",
        "customs": "check_custom shares_by worth_shares customs_table story_not_sure Customs",
        "wishes": "check_wish is_granted",
        "badrings": "bad_rings fitting_posts",
        "fewest": "changed_chart fewest_number fewest_changes changes_fault needed_posts Fewest NoWay",
        "manyfewest": "all_fewest count_fewest count_everywhere fewest_everywhere granted_chart Everywhere",
        "boxed": "boxed",
        "houses": "House",
        "manydays": "days_table count_days all_days day_story days_fault",
        "rounds": "Round",
        "dayrounds": "has_story days_with_story endless_story endless_fault Endless Ends",
        "suredays": "reached leading couples_on worths_on last_that_matters OnDay Matters",
        "growing": "never_two growth doubling doubling_fault Growth Doubling",
        "plaindays": "known_on plain_days",
        "samehouses": "alike_from alike_hands UnlikeDays",
        "housecharts": "as_chart story_filling",
        "finders": "finder_chart passing_posts gaps_of steps_to_pass mean_turns order_with_gaps customs_agree Finder",
        "weighing": "weight_of weight_sum back_shares weighed_posts weighed_outs weighed_worths same_as_seldom "
                    "weighed_chart drawn_in Nothing",
        "guesses": "outs_borne answers_of check_looks check_pool fitting_charts hidden_entries",
        "plans": "untold_lots surely_told telling_ins fewest_looks look_plan plan_fault",
        "dayings": "with_days fewest_letters Lettering",
        "changes": "edited_chart check_edits",
        "mends": "check_goal goal_holds find_mends find_spoilers steady_picks",
        "bench": "Bench",
    }
    METHODS = {"Box": "is_sure made_by with_entry on_day __eq__", "Chart": "is_sure with_box with_day with_outs __eq__",
               "Counts": "number_at __eq__", "Sure": "__eq__", "Two": "__eq__", "Walk": "__eq__", "OneRing": "__eq__",
               "TwoRings": "__eq__", "Meeting": "__eq__", "Span": "__eq__", "Parted": "__eq__", "Crowd": "__eq__",
               "Differ": "__eq__", "Customs": "__eq__", "Fewest": "__eq__", "NoWay": "__eq__", "Everywhere": "__eq__",
               "House": "all_couples all_steps entry_of with_row exchanged mirrored __eq__",
               "Round": "first_from many_below __contains__ __and__ __or__ __invert__ __eq__", "Endless": "__eq__",
               "Ends": "__eq__", "OnDay": "__eq__", "Matters": "__eq__", "Growth": "__eq__", "Doubling": "__eq__",
               "UnlikeDays": "__eq__", "Finder": "__eq__", "Nothing": "__eq__", "Lettering": "__eq__",
               "Bench": "log choose_ins choose_manner change ask holds take_back trying"}
    PARAMETERS = {
        "is_whole": "thing low high", "make_ratio": "top bottom", "is_filling": "sizes thing",
        "filling_number": "sizes filling", "filling_by_number": "sizes number", "place_of": "chart name",
        "check_ins": "chart ins unknown", "worths_at": "chart filling names", "worked": "chart ins post",
        "renamed_chart": "chart pairs", "exchanged_worths": "chart name order", "ordered_chart": "chart order",
        "later_chart": "chart days", "joined_charts": "chart other", "box_text": "box", "read_chart": "text",
        "all_stories": "chart ins", "stories_of_post": "chart ins post", "story_by_number": "chart ins number",
        "number_of_story": "chart ins filling", "boxes_against": "chart filling", "story_fault": "chart ins filling",
        "tells": "chart ins wire", "story_sure": "chart ins wire", "quarrels_of": "chart", "why_quarrel": "chart ins",
        "walk_from": "chart ins post", "check_table": "table", "lot_shares": "table lot", "lot_beats": "table lot",
        "turning_table": "chart ins", "check_shares": "chart shares", "shares_after": "chart ins shares turns",
        "mean_shares_after": "chart ins shares turns", "bounds_after": "chart ins post turns", "check_lot": "chart lot",
        "beats_of": "chart ins ring", "rings_every": "chart ins turns", "shortest_walk": "chart ins post lot",
        "ring_fault": "chart ins lot", "own_shares": "chart ins ring", "mixed_shares": "chart ins weights",
        "mixture_of": "chart ins shares", "own_shares_every": "chart ins turns", "shares_stay": "chart ins shares",
        "outs_of": "chart ins shares", "span_of_outs": "chart ins outs", "staying_with": "chart ins outs share",
        "staying_fault": "chart ins outs share shares", "counts_of": "chart names", "all_in": "chart",
        "draw_in": "counts name", "draw_all": "counts names", "same_lets": "counts other",
        "check_surrounding": "chart around", "counts_around": "chart around", "number_around": "chart around",
        "charts_alike": "chart other", "parting_chart": "chart other", "parting_fault": "chart other around",
        "one_box": "counts", "one_box_fault": "counts chart", "even_shares": "chart", "check_slip": "slip",
        "slipped": "chart ins slip beginnings", "turns_sum": "chart ins slip turns beginnings",
        "ends_in": "chart ins post", "ends_table": "chart ins", "ring_weights": "chart ins beginnings",
        "seldom": "chart ins beginnings", "near_seldom": "chart ins within beginnings", "lean": "chart ins beginnings",
        "changes_of": "chart post", "single_slipped": "chart ins slip", "change_table": "chart ins",
        "apart_lots": "chart ins", "single": "chart ins", "differing_ins": "chart", "changes_needed": "chart ins post",
        "slip_way": "chart ins post goal", "way_fault": "chart ins post goal way", "least_slips": "chart ins",
        "tree_costs": "chart ins", "last_rings": "chart ins", "check_told": "chart told",
        "known_rounds": "chart ins told", "known_worths": "chart ins told", "letter_waves": "chart ins",
        "first_ungrounded": "chart", "self_made": "chart ins", "reasons_for": "chart ins name told",
        "reasons_fault": "chart ins name reasons told", "least_lots": "chart ins name", "withheld_lots": "chart ins name",
        "struck_rounds": "chart ins", "left_worths": "chart ins", "crowd_for": "chart ins name worth",
        "crowd_fault": "chart ins name worth crowd", "is_key": "chart ins lot", "fewest_keys": "chart ins",
        "sent_back": "chart ins lot", "keyed_stories": "chart ins lot", "ring_worths": "chart ins name",
        "sure_everywhere": "chart ins name", "sure_outs": "chart ins", "unsure_ins": "chart name",
        "is_untouched": "chart name", "check_custom": "chart ins custom", "shares_by": "chart ins custom",
        "worth_shares": "chart ins custom name", "customs_table": "chart ins name", "story_not_sure": "chart name",
        "check_wish": "chart wish", "is_granted": "chart ins wish", "bad_rings": "chart ins wish",
        "fitting_posts": "chart ins wish", "changed_chart": "chart ins changes", "fewest_number": "chart ins wish",
        "fewest_changes": "chart ins wish", "changes_fault": "chart ins wish changes", "needed_posts": "chart ins wish",
        "all_fewest": "chart ins wish", "count_fewest": "chart ins wish", "count_everywhere": "chart wish",
        "fewest_everywhere": "chart wish", "granted_chart": "chart wish", "boxed": "chart",
        "days_table": "house days", "count_days": "house days hand blank", "all_days": "house days hand blank",
        "day_story": "house days hand blank number", "days_fault": "house days hand blank story",
        "has_story": "house days hand blank", "days_with_story": "house hand blank", "endless_story": "house hand",
        "endless_fault": "house hand before again", "reached": "house days hand", "leading": "house days blank",
        "couples_on": "house days hand blank day", "worths_on": "house days hand blank day", "last_that_matters": "house",
        "never_two": "house hand blank", "growth": "house hand blank", "doubling": "house hand blank",
        "doubling_fault": "house hand blank before one other after", "known_on": "house days hand blank",
        "plain_days": "house hand blank", "alike_from": "house hand other other_hand", "alike_hands": "house",
        "as_chart": "house days", "story_filling": "story", "finder_chart": "finder", "passing_posts": "finder ins",
        "gaps_of": "finder ins", "steps_to_pass": "finder ins post", "mean_turns": "finder ins",
        "order_with_gaps": "many numbers gaps", "customs_agree": "finder ins", "weight_of": "chart ins filling",
        "weight_sum": "chart ins", "back_shares": "chart ins turns", "weighed_posts": "chart ins",
        "weighed_outs": "chart ins", "weighed_worths": "chart ins wire", "same_as_seldom": "chart",
        "weighed_chart": "shares", "drawn_in": "chart wire shares", "outs_borne": "chart ins manner",
        "answers_of": "chart ins manner", "check_looks": "chart looks", "check_pool": "pool",
        "fitting_charts": "pool looks", "hidden_entries": "chart box filling looks", "untold_lots": "pool manner",
        "surely_told": "pool manner", "telling_ins": "pool manner", "fewest_looks": "pool manner",
        "look_plan": "pool manner", "plan_fault": "pool manner plan", "with_days": "chart days", "fewest_letters": "chart",
        "edited_chart": "chart edits", "check_edits": "chart pool", "check_goal": "chart goal", "goal_holds": "chart goal",
        "find_mends": "chart pool goal", "find_spoilers": "chart pool goal", "steady_picks": "chart pool goal",
    }

    def test_generators(self):
        functions = {node.name: node for _, tree in trees() for node in tree.body if isinstance(node, ast.FunctionDef)}
        for name in self.GENERATORS:
            self.assertTrue(walk(functions[name], ast.Yield, ast.YieldFrom), name)

    def test_names_stand_in_their_files(self):
        found = {name[:-3]: tree for name, tree in trees()}
        for module, names in self.LISTED.items():
            defined = [node.name for node in found[module].body if isinstance(node, (ast.FunctionDef, ast.ClassDef))]
            defined += [node.targets[0].id for node in found[module].body if isinstance(node, ast.Assign)]
            for name in names.split():
                self.assertIn(name, defined, module)

    def test_methods_stand_in_their_classes(self):
        classes = {node.name: node for _, tree in trees() for node in walk(tree, ast.ClassDef)}
        for name, methods in self.METHODS.items():
            defined = [row.name for row in classes[name].body if isinstance(row, ast.FunctionDef)]
            for method in methods.split():
                self.assertIn(method, defined, name)

    CONSTRUCTORS = {
        "Box": "day takes makes entries", "Chart": "wires boxes outs", "Counts": "ins letters outs rows", "Sure": "worth",
        "Two": "one other", "Walk": "posts back", "OneRing": "ring", "TwoRings": "one other", "Meeting": "turns post",
        "Span": "least greatest low high", "Parted": "ins outs many others", "Crowd": "rows",
        "Differ": "ring post worth other_ring other_post other_worth",
        "Customs": "stories least greatest by_seldom by_single known", "Fewest": "number changes",
        "Everywhere": "number rows", "made_by": "filling", "with_entry": "filling entry", "on_day": "day",
        "with_box": "index box", "with_day": "index day", "with_outs": "outs", "number_at": "told sent",
        "House": "hand_size letter_size rows", "Round": "head turn lot", "Endless": "before again", "Ends": "days",
        "OnDay": "hands letters", "Matters": "back ahead", "Growth": "kind power", "Doubling": "before one other after",
        "UnlikeDays": "days blank number other_number", "entry_of": "hand letter", "with_row": "hand letter row",
        "exchanged": "hands letters", "mirrored": "", "first_from": "days", "many_below": "days",
        "Finder": "ins letters checks order stay", "Lettering": "letters days", "Bench": "chart", "choose_ins": "ins",
        "choose_manner": "manner", "change": "edit", "ask": "", "holds": "goal", "take_back": "many", "trying": "action",
    }
    GENERATORS = ("fillings_of", "all_stories", "all_fewest", "all_days", "find_mends", "find_spoilers", "steady_picks")

    def test_parameters_of_methods(self):
        found = {}
        for _, tree in trees():
            for node in walk(tree, ast.ClassDef):
                for row in node.body:
                    if isinstance(row, ast.FunctionDef):
                        found[node.name if row.name == "__init__" else row.name] = [arg.arg for arg in row.args.args]
        for name, parameters in self.CONSTRUCTORS.items():
            self.assertEqual(found[name], ["self"] + parameters.split(), name)

    def test_parameters(self):
        functions = {node.name: node for _, tree in trees() for node in tree.body if isinstance(node, ast.FunctionDef)}
        for name, parameters in self.PARAMETERS.items():
            self.assertEqual([arg.arg for arg in functions[name].args.args], parameters.split(), name)


if __name__ == "__main__":
    unittest.main()
