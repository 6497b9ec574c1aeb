import importlib
import inspect
import unittest

FUNCTIONS = {
    "evenhall.words": {
        "is_whole": ["thing"], "is_name": ["thing"], "is_note": ["thing"], "is_among": ["thing", "least", "most"],
        "number_text": ["number"], "number_of": ["word"],
    },
    "evenhall.days": {
        "is_day": ["thing"], "is_month": ["thing"], "day_at": ["year", "month", "place"], "parts_of": ["day"],
        "month_of": ["day"], "first_day": ["month"], "last_day": ["month"], "day_text": ["day"], "day_of": ["text"],
        "stepped": ["day", "months"],
    },
    "evenhall.money": {
        "is_amount": ["thing"], "is_currency": ["thing"], "amount_text": ["amount", "places"],
        "amount_of": ["word", "places"],
    },
    "evenhall.shares": {"rounded": ["number", "by"], "shared": ["amount", "weights"]},
    "evenhall.paths": {"names_of": ["path"], "path_of": ["names"], "above": ["path"], "is_within": ["path", "other"]},
    "evenhall.chains": {
        "chain": ["rates", "one", "other", "day"], "rate": ["rates", "one", "other", "day"],
        "converted": ["rates", "amount", "one", "other", "day"],
    },
    "evenhall.bookings": {
        "need_form": ["rows"], "need_rows": ["chart", "day", "rows"], "turned": ["rows"], "sums_of": ["rows"],
    },
    "evenhall.deeds": {
        "book": ["chart", "gate", "journal", "day", "note", "rows"],
        "undo": ["chart", "gate", "journal", "number", "day", "note"],
    },
    "evenhall.statements": {"statement": ["chart", "journal", "path", "currency", "first", "last"]},
    "evenhall.reports": {
        "report": ["chart", "journal", "first", "last"], "balances": ["chart", "journal", "day"],
    },
    "evenhall.views": {"valued": ["chart", "journal", "rates", "currency", "day"]},
    "evenhall.seals": {"seal": ["chart", "journal", "month"], "holds": ["chart", "journal", "told"]},
    "evenhall.closing": {
        "carry_rows": ["chart", "journal", "path", "year"],
        "close": ["chart", "gate", "journal", "seals", "month", "path"],
    },
    "evenhall.watch": {
        "done_by": ["budgets", "journal", "name", "month"], "left": ["budgets", "journal", "name", "month"],
        "over": ["budgets", "journal", "month"],
    },
    "evenhall.running": {"run": ["chart", "gate", "journal", "standing", "until"]},
    "evenhall.orders": {"order_of": ["line"], "line_of": ["order"]},
    "evenhall.doing": {"carry_out": ["house", "order"], "is_deed": ["order"]},
    "evenhall.asking": {"answer_of": ["house", "order"]},
    "evenhall.shell": {"answered": ["house", "line"], "played": ["lines"]},
    "evenhall.keeps": {"house_lines": ["house"], "house_of": ["lines"], "same_house": ["one", "other"]},
}

CLASSES = {
    "evenhall.chart": {"Chart": {
        "add_top": ["name", "kind"], "add": ["path", "currency", "day"], "shut": ["path", "day"], "has": ["path"],
        "kind_of": ["path"], "currency_of": ["path"], "span_of": ["path"], "is_open": ["path", "day"],
        "beneath": ["path"], "accounts": [],
    }},
    "evenhall.rates": {"Rates": {
        "quote": ["day", "one", "p", "other", "q"], "newest": ["one", "other", "day"], "currencies": [], "quotes": [],
    }},
    "evenhall.journal": {
        "Gate": {"closed": [], "lets": ["day"], "shut": ["month"]},
        "Journal": {
            "put": ["day", "note", "rows", "undoes"], "many": [], "booking": ["number"], "every": [],
            "undone_by": ["number"],
        },
    },
    "evenhall.sums": {"Sums": {
        "put": ["booking"], "own": ["path", "currency", "first", "last"], "standing": ["path", "currency", "month"],
        "currencies": ["path"],
    }},
    "evenhall.seals": {"Seals": {"put": ["told"], "every": []}},
    "evenhall.budgets": {"Budgets": {
        "put": ["name", "path", "currency", "first", "last", "total", "weights"], "drop": ["name"], "names": [],
        "terms": ["name"], "planned": ["name", "month"], "planned_by": ["name", "month"],
    }},
    "evenhall.standing": {"Standing": {
        "put": ["name", "first", "every", "times", "note", "rows"], "drop": ["name"], "names": [], "terms": ["name"],
        "done": ["name"], "step": ["name"], "days": ["name", "until"],
    }},
    "evenhall.house": {"House": {}},
}


class Interface(unittest.TestCase):
    def test_names_and_arguments_are_as_the_document_has_them(self):
        for module, functions in FUNCTIONS.items():
            for name, arguments in functions.items():
                function = getattr(importlib.import_module(module), name)
                self.assertEqual(list(inspect.signature(function).parameters), arguments, name)

    def test_classes_are_made_of_nothing_and_have_their_methods(self):
        for module, classes in CLASSES.items():
            for name, methods in classes.items():
                made = getattr(importlib.import_module(module), name)()
                for method, arguments in methods.items():
                    told = list(inspect.signature(getattr(made, method)).parameters)
                    self.assertEqual(told, arguments, (name, method))


if __name__ == "__main__":
    unittest.main()
