"""The interface: each name stands in its module, with its arguments by their places and names."""

import importlib
import inspect
import unittest

FUNCTIONS = {
    "ties": {
        "is_measure": "thing", "is_tie": "measure thing", "tie_count": "measure", "all_ties": "measure",
        "nought": "measure", "tie_sum": "measure one other", "tie_less": "measure one other",
        "tie_times": "measure tie times", "tie_order": "measure tie",
    },
    "frames": {"Frame": "measure hues"},
    "tables": {
        "is_table": "frame thing", "even_table": "frame", "table_tie": "table one other",
        "web_tie": "frame web one other",
    },
    "places": {
        "is_place": "frame thing", "place_count": "frame", "place_number": "frame place", "place_at": "frame number",
        "place_tie": "frame one other",
    },
    "standings": {"standing": "frame web", "web_of": "frame lot"},
    "turnings": {
        "is_turning": "frame thing", "still_turning": "frame", "lead_place": "frame turning place",
        "put_behind": "frame first second", "turned_back": "frame turning", "turning_count": "frame",
    },
    "likenesses": {"is_likeness": "frame web other thing", "part_of": "frame web other likeness"},
    "parts": {"is_part": "frame thing", "sign_counts": "frame part"},
    "bars": {"first_bar": "frame part", "goes_on": "frame part"},
    "barlooks": {"shows_bar": "frame part thing"},
    "ways": {
        "least_way": "frame part", "way_count": "frame part", "way_at": "frame part number=0",
        "way_number": "frame part turning", "image_count": "frame part place",
    },
    "barring": {"barring": "frame part"},
    "times": {
        "turn_times": "frame turning times", "turning_order": "frame turning", "times_to": "frame turning one other",
    },
    "rings": {
        "least_on_ring": "frame turning place", "stays": "frame turning times=1", "ring_counts": "frame turning",
    },
    "likes": {"least_like": "frame places", "are_like": "frame places others", "pair_kinds": "frame"},
    "growing": {
        "grown": "frame hue", "grown_place": "frame place", "grown_table": "frame table ties=None",
        "grown_part": "frame part", "grown_turning": "frame turning",
    },
    "coarsening": {
        "is_coarser": "measure thing", "coarser_frame": "frame measure", "coarser_place": "frame measure place",
        "coarser_table": "frame measure table", "coarser_turning": "frame measure turning",
    },
}


class TestInterface(unittest.TestCase):
    def test_names_and_arguments(self):
        for module, functions in FUNCTIONS.items():
            for name, words in functions.items():
                told = getattr(importlib.import_module(f"wholeturn.{module}"), name)
                self.assertEqual(told.__module__, f"wholeturn.{module}")
                parameters = inspect.signature(told).parameters.values()
                # A parameter shows its default as the document does: number=0.
                self.assertEqual([str(parameter) for parameter in parameters], words.split(), name)
                for parameter in parameters:
                    self.assertEqual(parameter.kind, parameter.POSITIONAL_OR_KEYWORD, name)


if __name__ == "__main__":
    unittest.main()
