"""The interface: each name stands in its module, with its arguments by their places and names."""

import importlib
import inspect
import unittest

FUNCTIONS = {
    "ties": {
        "is_measure": "thing", "is_tie": "measure thing", "tie_count": "measure", "all_ties": "measure",
        "nought": "measure", "tie_sum": "measure one other", "tie_less": "measure one other",
        "tie_times": "measure tie times", "tie_order": "measure tie",
    },
    "frames": {"Frame": "measure hues"},
    "tables": {
        "is_table": "frame thing", "even_table": "frame", "table_tie": "table one other",
        "web_tie": "frame web one other",
    },
    "places": {
        "is_place": "frame thing", "place_count": "frame", "place_number": "frame place", "place_at": "frame number",
        "place_tie": "frame one other",
    },
    "standings": {"standing": "frame web", "web_of": "frame lot"},
    "turnings": {
        "is_turning": "frame thing", "still_turning": "frame", "lead_place": "frame turning place",
        "put_behind": "frame first second", "turned_back": "frame turning", "turning_count": "frame",
    },
    "likenesses": {"is_likeness": "frame web other thing", "part_of": "frame web other likeness"},
    "parts": {"is_part": "frame thing", "sign_counts": "frame part"},
    "bars": {"first_bar": "frame part", "goes_on": "frame part"},
    "barlooks": {"shows_bar": "frame part thing"},
    "ways": {
        "least_way": "frame part", "way_count": "frame part", "way_at": "frame part number=0",
        "way_number": "frame part turning", "image_count": "frame part place",
    },
    "barring": {"barring": "frame part"},
    "times": {
        "turn_times": "frame turning times", "turning_order": "frame turning", "times_to": "frame turning one other",
    },
    "rings": {
        "least_on_ring": "frame turning place", "stays": "frame turning times=1", "ring_counts": "frame turning",
    },
    "likes": {"least_like": "frame places", "are_like": "frame places others", "pair_kinds": "frame"},
    "growing": {
        "grown": "frame hue", "grown_place": "frame place", "grown_table": "frame table ties=None",
        "grown_part": "frame part", "grown_turning": "frame turning",
    },
    "coarsening": {
        "is_coarser": "measure thing", "coarser_frame": "frame measure", "coarser_place": "frame measure place",
        "coarser_table": "frame measure table", "coarser_turning": "frame measure turning",
    },
    "halls": {"Hall": "frame *keep=True"},
    "showing": {
        "show_frame": "frame", "show_table": "table", "show_place": "place", "show_turning": "turning",
        "show_part": "part", "show_bar": "bar",
    },
    "reading": {
        "read_frame": "text", "read_table": "frame text", "read_place": "frame text", "read_turning": "frame text",
        "read_part": "frame text",
    },
    "desk": {"Desk": "text"},
}
METHODS = {
    ("frames", "Frame"): {"stem_count": "self", "__eq__": "self other"},
    ("halls", "Hall"): {
        "put": "self name place", "lift": "self name", "lead": "self rows", "turn": "self turning times=1",
        "grow": "self hue", "where": "self name", "names": "self", "frame_now": "self", "whole_turning": "self",
        "back": "self", "copy": "self", "__len__": "self",
    },
    ("desk", "Desk"): {"say": "self line"},
}


def shown(told):
    """The parameters, each with its default as the document shows it, number=0; behind a * those by name alone."""
    words = []
    for parameter in inspect.signature(told).parameters.values():
        words.append(("*" if parameter.kind == parameter.KEYWORD_ONLY else "") + str(parameter))
        if parameter.kind not in (parameter.KEYWORD_ONLY, parameter.POSITIONAL_OR_KEYWORD):
            words.append("of another kind")
    return " ".join(words)


class TestInterface(unittest.TestCase):
    def test_names_and_arguments(self):
        for module, functions in FUNCTIONS.items():
            for name, words in functions.items():
                told = getattr(importlib.import_module(f"wholeturn.{module}"), name)
                self.assertEqual(told.__module__, f"wholeturn.{module}")
                self.assertEqual(shown(told), words, name)

    def test_methods_stand_in_their_class_itself(self):
        for (module, name), methods in METHODS.items():
            kind = getattr(importlib.import_module(f"wholeturn.{module}"), name)
            self.assertEqual(kind.__bases__, (object,))
            for method, words in methods.items():
                self.assertEqual(shown(vars(kind)[method]), words, method)

    def test_all_modules_of_the_document(self):
        named = "ties frames tables places standings turnings likenesses parts bars barlooks ways barring times rings likes"
        named += " growing coarsening halls showing reading desk"
        self.assertEqual(sorted(FUNCTIONS), sorted(named.split()))


if __name__ == "__main__":
    unittest.main()
