"""The names, arguments and places of the interface, and each of its functions called by names in another order."""

import importlib
import inspect

from drawclaims import errors
from drawclaims.carrying import Carry
from drawclaims.claims import Claims
from drawclaims.desks import Desk
from drawclaims.layers import Layers
from drawclaims.plans import Plan
from drawclaims.ranges import TwoSided
from drawclaims.ratios import Ratio
from drawclaims.samples import Book, Sample
from drawclaims.surveys import Survey
from drawclaims.tables import Table, Watch
from tests.helpers import ProgramTest

FUNCTIONS = {
    "ratios": ("is_share(value)",),
    "comparing": ("same_classes(plan, other)", "parting_marks(plan, other)"),
    "counting": (
        "falling(top, times)", "draws(plan, size)", "class_counts(plan, size, marked)", "up_to(plan, number, size, marked)",
        "mean_looked(plan, size, marked)",
    ),
    "series": ("value_at(series, place)", "runs_of(series)", "ladder_of(series)"),
    "holding": (
        "worst(claims, size)", "holds_at(claims, share, size)", "sizes_where(claims, share, *, from_size=1)",
        "holds_always(claims, share, *, from_size=1)", "failing(claims, share, *, from_size=1)",
    ),
    "greatest": (
        "limit_share(claims, number)", "greatest_share(claims, *, from_size=1)", "near_greatest(claims, gap, *, from_size=1)",
    ),
    "least": (
        "least_bounds(plan, share, size)", "least_slopes(plan, share, bottom, *, offset=0, from_size=1)",
        "least_offsets(plan, share, bottom, slope, *, from_size=1)",
        "least_look(share, bottom, slope, *, offset=0, allowed=0, from_size=1)",
        "next_look(share, bottom, slope, *looks, offset=0, allowed=0, from_size=1)",
    ),
    "tables": ("choose(watch, plan)",),
    "layers": ("partners(left, right)",),
    "desks": ("set_limit(desk, limit)",),
    "checker": ("accepts(claim, certificate)",),
    "certificates": (
        "certify_holding(claims, share, *, from_size=1)", "certify_greatest(claims, *, from_size=1)",
        "certify_bounds(plan, share, size)", "certify_slope(plan, number, share, bottom, *, offset=0, from_size=1)",
        "certify_comparison(plan, other)", "certify_sinking(*rows)",
    ),
}
# The first entry of each class is how it is created; signs are told by their names.
CLASSES = {
    "ratios.Ratio": (
        "(top, bottom=1)", "read(text)", "__add__ __radd__ __sub__ __rsub__ __mul__ __rmul__ __neg__ __lt__ __le__ __gt__ __ge__ __eq__ __bool__ __str__ __repr__",
    ),
    "lines.Line": (
        "(the_offset=0, **slopes)", "slope_of(name)", "at(**sizes)",
        "__add__ __radd__ __sub__ __rsub__ __mul__ __rmul__ __neg__ __lt__ __le__ __gt__ __ge__ __eq__ __str__ __repr__",
    ),
    "plans.Plan": (
        "(*rows)", "read(text)", "fixed(looked, *limits)", "looks(*pairs)", "__call__(marks)", "leads(m, k)", "settles(m, k)", "ways(m, k)",
        "curtailed()", "flipped()", "__eq__ __str__ __repr__",
    ),
    "sizes.Sizes": (
        None, "span(first, last=None)", "rests(modulus, *rests)", "after(first)", "members(first, many)", "__and__ __or__ __sub__ __le__ __eq__ __contains__ __bool__",
    ),
    "claims.Claims": ("(plan, bottom, *lines)", "bound(number, size)", "line(number, name)", "wrong(size, marked)", "wrong_share(size, marked)", "__eq__ __repr__"),
    "ranges.TwoSided": ("(at_most, at_least)", "interval(number, size)", "wrong_share(size, marked)", "worst(size)", "most_share(*, from_size=1)"),
    "tables.Table": ("()", "put(key, rank, marked=False)", "drop(key)", "change(key, marked)", "mark_of(key)", "order()"),
    "tables.Watch": ("(table, plan)", "run()", "known()"),
    "carrying.Carry": ("(most, *keys, least=0)", "put(key)", "drop(key)", "change(key, marked)", "learn(key, marked)"),
    "samples.Sample": ("(*pairs)", "__or__ __and__ __contains__ __eq__ __bool__"),
    "samples.Book": ("(share, bottom, longest, *, from_size=1)", "bound(sample, size)"),
    "layers.Layers": ("(*parts)", "__call__(values)", "most_share(*, from_size=1)"),
    "surveys.Survey": ("(**tables)", "claims_of(name)", "line(**numbers)", "wrong_share(**tables)", "greatest(*, from_size=1)"),
    "desks.Desk": ("(limit, *, from_size=1)", "survey()", "put(name, claims)", "drop(name)", "do_all(*deeds, watch=None)", "undo(*, times=1)"),
    "console.Console": ("()", "say(line)"),
}
ERRORS = {
    "InputError": (
        "InvalidNumber(number) InvalidRatio(value) InvalidShare(value) InvalidName(name) InvalidRows(index) NotRising(marks,place) InvalidLimits(index) "
        "InvalidLooks(index) InvalidMarks(index) InvalidState(state) InvalidLines(index) InvalidSize(value) InvalidMarked(value) InvalidSeries(index) "
        "InvalidModulus(value) InvalidKeys(index) InvalidLayers(index) InvalidTables(name) InvalidDeeds(index) InvalidText(text) InvalidCommand(command) "
        "NotAPlan(value) NotClaims(value) NotFlipped(found) NotATable(value) NotASample(value)"
    ),
    "StateError": (
        "UnknownName(name) UnknownRow(key) KnownRow(key) SameRank(rank) Contradiction(key) NotHeld(found) Busy() NothingToUndo()"
    ),
    "LimitError": "TooFew(looked) TooFine(found)",
}
PLAN = Plan.fixed(2, 0)
HALF = Claims(PLAN, 2, (1, 0))
ATTRIBUTES = (
    (Ratio(1, 2), "top bottom floor"), (HALF.line(0, "a"), "offset names"), (PLAN, "rows longest classes"), (HALF, "plan bottom lines"),
    (TwoSided(HALF, Claims(PLAN.flipped(), 1, (1, 0))), "at_most at_least"), (Table(), "size marked"), (Watch(Table(), PLAN), "table chosen reads"),
    (Carry(1, 2), "size refuted most_now least_now"), (Sample((1, True)), "pairs size marked"), (Book(Ratio(0), 1, 1), "longest slopes"),
    (Layers(HALF), "levels longest"), (Survey(), "names"), (Desk(Ratio(0)), "limit share names busy history"),
)


def signature_of(function):
    return str(inspect.signature(function)).replace("(self, ", "(").replace("(self)", "()").replace("(cls, ", "(")


class InterfaceTest(ProgramTest):
    def test_functions(self):
        for module, texts in FUNCTIONS.items():
            names = vars(importlib.import_module("drawclaims." + module))
            for text in texts:
                function = names[text.partition("(")[0]]
                self.assertEqual(function.__name__ + signature_of(function), text)
                self.assertEqual(function.__module__, "drawclaims." + module)

    def test_classes(self):
        for path, (made, *texts) in CLASSES.items():
            module, name = path.split(".")
            found = vars(importlib.import_module("drawclaims." + module))[name]
            self.assertEqual(found.__module__, "drawclaims." + module)
            if made is not None:
                self.assertEqual(signature_of(found.__init__), made, path)
            for text in texts:
                for word in text.split(" ") if "(" not in text else [text.partition("(")[0]]:
                    self.assertIn(word, vars(found), path)
                if "(" in text:
                    member = vars(found)[text.partition("(")[0]]
                    self.assertEqual(signature_of(getattr(member, "__func__", member)), "(" + text.partition("(")[2], path)

    def test_errors(self):
        count = 0
        for base, texts in ERRORS.items():
            for text in texts.split(" "):
                name, _, fields = text.removesuffix(")").partition("(")
                if not fields:
                    self.assertEqual(vars(getattr(errors, name)()), {})
                else:
                    self.assertEqual(signature_of(getattr(errors, name).__init__), "(" + fields.replace(",", ", ") + ")")
                self.assertEqual(getattr(errors, name).__bases__, (getattr(errors, base),))
                count += 1
        self.assertEqual(count, 36)

    def test_attributes(self):
        for item, names in ATTRIBUTES:
            for name in names.split(" "):
                self.assertTrue(hasattr(item, name), name)

    def test_generators(self):
        for path in ("tables.Table.order", "sizes.Sizes.members"):
            module, name, method = path.split(".")
            found = vars(importlib.import_module("drawclaims." + module))[name]
            self.assertTrue(inspect.isgeneratorfunction(vars(found)[method]))
