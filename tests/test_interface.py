"""The interface: names and arguments, each defined in the file under which it is listed."""

import ast
import importlib
import inspect
import os
import unittest

FOLDER = os.path.join(os.path.dirname(os.path.abspath(__file__)), "..", "packsworn")

CLASSES = {
    "errors": {
        "PackError": None, "Wrong": ["place"], "NoVersion": None, "NoRange": ["place"], "NoText": ["line"],
        "Doubled": ["name", "version"], "NoPack": ["name", "version"], "TooMany": ["most"], "NotThere": ["name"],
        "PowerCut": None, "NoGeneration": ["number"], "NoCommand": None,
    },
    "disk": {"Disk": ["files"]}, "house": {"House": ["files"]}, "desk": {"Desk": ["files"]},
}

# The methods that the interface lists; each stands in the body of its class.
METHODS = {
    "disk": {"Disk": {"do": "deeds", "fuse": "many signs", "power": "", "has_power": "", "files": "", "twin": "", "__eq__": "other"}},
    "house": {"House": {
        "fuse": "many signs", "power": "", "start": "", "publish": "text", "withdraw": "name version", "restore": "name version",
        "wish_for": "text", "back": "number", "collect": "numbers", "repair": "", "install": "mode", "wish": "", "case_of": "mode",
        "has_power": "", "registry": "", "files": "", "tree": "", "lock": "", "lock_text": "", "numbers": "", "findings": "",
        "tree_of_number": "number", "twin": "", "__eq__": "other",
    }},
    "desk": {"Desk": {"execute": "line", "house": ""}},
}

FUNCTIONS = {
    "versions": {
        "is_integer": "thing", "is_version": "thing", "is_name": "thing", "show_version": "version",
        "read_version": "text", "after": "version", "raised": "version place",
    },
    "ranges": {
        "is_range": "thing", "is_in": "version one", "is_within": "one other", "none_of": "", "all_of": "",
        "just": "version", "stretch": "low high", "range_of": "versions", "union": "one other", "meet": "one other",
        "without": "one other", "rest": "one", "kept": "versions one", "least_in": "one",
        "parting_version": "one other",
    },
    "rangetexts": {"read_range": "text", "show_range": "one"},
    "forms": {
        "is_lot_of_names": "thing", "is_path": "thing", "is_content": "thing", "is_need": "thing",
        "is_note": "thing", "is_pack": "thing", "is_registry": "thing", "is_wish": "thing", "is_lock": "thing",
        "is_case": "thing",
    },
    "registry": {
        "names_of": "registry", "versions_of": "registry name", "pack_of": "registry name version",
        "feature_of": "pack feature", "is_withdrawn": "registry name version", "paths_clash": "one other",
        "files_of": "pack", "with_pack": "registry pack", "without_pack": "registry name version",
        "withdrew": "registry name version", "restored": "registry name version",
    },
    "texts": {"show_registry": "registry", "show_wish": "wish", "show_case": "case"},
    "reader": {"read_registry": "text", "read_wish": "text", "read_case": "text"},
    "overlays": {
        "laid_over": "below above", "only_names": "registry names", "changed_by": "registry change",
        "change_between": "one other",
    },
    "demands": {
        "case_names": "case", "need_of": "case line", "conditions_of": "line", "things_of": "case",
        "lines_of": "case", "supports": "case",
    },
    "reach": {
        "reach": "case choice", "unreached": "case choice", "ranks": "case choice", "road_to": "case choice thing",
        "is_road": "case choice thing value", "is_shut": "case choice value",
    },
    "plans": {"plan_of": "case choice", "choice_of": "plan", "is_plan": "case thing", "broken": "case choice"},
    "liking": {
        "row_of": "case", "liked_options": "case name", "liking": "case plan", "is_ahead": "case one other",
        "first_unlike": "case one other", "all_plans": "case", "first_by_all": "case",
    },
    "clauses": {
        "variables_of": "case", "options_of": "case variable", "gives": "plan variable", "is_clause": "case thing",
        "clause_holds": "clause plan", "made_clause": "rows", "joined": "one other variable",
    },
    "axioms": {"axiom_clause": "case thing", "plain_axioms": "case", "loop_for": "case plan things thing"},
    "judge": {
        "clauses_of": "case steps", "trimmed": "steps kept", "is_derivation": "case thing", "is_none_paper": "case thing",
        "is_first_paper": "case plan thing", "passed": "case plan", "axioms_used": "steps",
    },
    "narrowing": {
        "sequence_of": "case", "liked": "case variable", "narrowed": "case choices", "domains_of": "case choices",
        "is_narrowed": "case choices thing",
    },
    "blaming": {"blame": "case choices trail failed"},
    "cores": {
        "with_wishes": "case lot", "bad_lots": "case", "good_lots": "case", "dropped_lots": "case", "blamed": "case steps",
    },
    "words": {"tell": "case steps", "read_told": "case text"},
    "helps": {"had_versions": "case index", "lifted_withdrawals": "case", "nearest_wishes": "case"},
    "locks": {
        "show_lock": "lock", "read_lock": "text", "changes_between": "one other", "changed_lock": "lock changes",
        "change_word": "before after",
    },
    "upgrades": {
        "with_mode": "case mode", "with_lock": "case lock", "freed": "case names", "held_at": "case names",
        "none_lower": "case names", "pinned": "case name version", "upgraded": "case names",
        "versions_to_have": "case name", "least_to_free": "case name version",
    },
    "whys": {
        "held_lines": "case plan", "needers": "case plan name", "rings": "case plan", "why_there": "case plan name",
        "leaning": "case plan name",
    },
    "orders": {
        "install_order": "case plan", "rounds": "case plan", "longest_chain": "case plan",
        "is_install_order": "case plan thing", "is_chain": "case plan thing",
    },
    "disk": {"after": "files deeds", "cut": "files deeds many signs", "all_cuts": "files deeds"},
    "store": {"kept": "files", "keeping": "files contents", "unshelving": "files contents"},
    "trees": {"tree_of": "registry plan", "tree_on": "files", "steps_between": "old new"},
    "journal": {"log_text": "log", "read_log": "text"},
    "installer": {"install_deeds": "files registry plan", "mend_deeds": "files", "meant": "files", "is_calm": "files"},
    "cuts": {
        "install_cut": "files registry plan many signs", "mended": "files", "mended_after": "files cuts",
        "is_behind": "files registry plan many",
    },
    "generations": {
        "manifest_text": "manifest", "read_manifest": "text", "manifest_at": "files number", "tree_at": "files number",
        "generations": "files", "sound_ones": "files", "record_deeds": "files", "rollback_deeds": "files number",
    },
    "collecting": {"collect_deeds": "files numbers", "spare_shelves": "files"},
    "lookover": {"look_over": "files registry", "repair_deeds": "files registry"},
    "lastings": {
        "long_clause": "case thing", "long_joined": "one other variable", "long_clauses": "case steps", "helpers": "case steps other",
        "long_holds": "clause plan", "is_later": "case other", "still_none": "case steps other", "what_can_help": "case steps",
    },
    "releases": {
        "released_as": "pack version", "slim": "pack kept", "slim_release": "case plan name version", "with_release": "case pack",
        "limits_of": "case plan name", "room_for": "case plan name", "drops_in": "case plan name version",
    },
    "solver": {"going_on": "case choices", "answer": "case", "first_plan": "case", "is_answer": "case thing"},
}


def defined(module):
    """Return the names that a file of the package defines by `def` and by `class`."""
    with open(os.path.join(FOLDER, module + ".py"), encoding="utf-8") as file:
        body = ast.parse(file.read()).body
    return ([node.name for node in body if isinstance(node, ast.FunctionDef)],
            [node.name for node in body if isinstance(node, ast.ClassDef)])


class TestInterface(unittest.TestCase):
    def test_functions(self):
        for module, told in FUNCTIONS.items():
            for name, arguments in told.items():
                self.assertIn(name, defined(module)[0])
                call = getattr(importlib.import_module("packsworn." + module), name)
                self.assertEqual(list(inspect.signature(call).parameters), arguments.split(), name)

    def test_classes(self):
        for module, told in CLASSES.items():
            for name, arguments in told.items():
                self.assertIn(name, defined(module)[1])
                kind = getattr(importlib.import_module("packsworn." + module), name)
                if arguments is not None:
                    self.assertEqual(list(inspect.signature(kind.__init__).parameters)[1:], arguments, name)

    def test_methods(self):
        for module, classes in METHODS.items():
            for name, methods in classes.items():
                kind = getattr(importlib.import_module("packsworn." + module), name)
                for method, arguments in methods.items():
                    self.assertIn(method, vars(kind), name)
                    self.assertEqual(list(inspect.signature(vars(kind)[method]).parameters), ["self"] + arguments.split(), method)

    def test_init_is_empty(self):
        self.assertEqual(os.path.getsize(os.path.join(FOLDER, "__init__.py")), 0)


if __name__ == "__main__":
    unittest.main()
