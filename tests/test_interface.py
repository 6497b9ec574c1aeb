import importlib
import inspect
import unittest

FUNCTIONS = {
    "evenhall.words": {
        "is_whole": ["thing"], "is_name": ["thing"], "is_note": ["thing"], "is_among": ["thing", "least", "most"],
        "number_text": ["number"], "number_of": ["word"],
    },
    "evenhall.days": {
        "is_day": ["thing"], "is_month": ["thing"], "day_at": ["year", "month", "place"], "parts_of": ["day"],
        "month_of": ["day"], "first_day": ["month"], "last_day": ["month"], "day_text": ["day"], "day_of": ["text"],
        "stepped": ["day", "months"],
    },
    "evenhall.money": {
        "is_amount": ["thing"], "is_currency": ["thing"], "amount_text": ["amount", "places"],
        "amount_of": ["word", "places"],
    },
}


class Interface(unittest.TestCase):
    def test_names_and_arguments_are_as_the_document_has_them(self):
        for module, functions in FUNCTIONS.items():
            for name, arguments in functions.items():
                function = getattr(importlib.import_module(module), name)
                self.assertEqual(list(inspect.signature(function).parameters), arguments, name)


if __name__ == "__main__":
    unittest.main()
