"""The names, arguments and defaults that others go by, and where each stands."""

import ast
import importlib
import inspect
import pathlib
import unittest

PACKAGE = pathlib.Path(__file__).resolve().parent.parent / "metbefore"
SOUGHT = "*, strength=1, count=1, since=0, shown=()"
TIMES = "*, strength=1, count=1, since=0"
TABLE = f"""
wordkinds: is_name(thing) is_meeting(thing) is_sign(thing) is_word(thing)
wordkinds: are_words(thing) is_row(thing) are_signs(thing)
wordsums: sum_of(words) sign_of(word, signs)
bases: base_of(words) makes(words, word)
ranks: rank_of(words) rank_beyond(words, others)
rests: rest_of(words, word) base_beyond(words, others)
making: all_made(words, *, most=4096)
knownpapers: known_paper(words, word)
knownchecker: lets_known(words, word, thing)
bothmade: both_make(one, other) both_beyond(one, other, others)
wordtables: is_table(thing) turned_by(words, table)
wordtexts: word_text(word) words_text(words)
wordreadings: word_read(text, *, line=0) words_read(text, *, line=0)
bookkinds: is_deed(thing) is_lot(thing) first_book(room, hands)
bookchecker: lets_book(thing)
reaches: purse_of(book, hand) can_make(book, hand) together(book, hands) makers_of(book, word)
bookdeeds: barred_by(book, deed) done(book, deed)
histories: books_of(history) last_book(history) is_history(thing)
lotkinds: is_lot_of(history, thing)
hadby: had_by(history, lot) goes_by(history, lot) knows_of(history, lot)
fates: fate_paper(history, lot, word)
fatechecker: lets_fate(history, lot, word, thing)
signrows: sign_rows(many, told, *, most=4096) answers_of(many, told, row, *, most=4096)
deedtexts: deed_line(deed) history_text(history)
deedreadings: deed_read(text, *, line=0) history_read(text)
sides: sides_of(book, door, guest) held_by(book, side)
leastsides: least_sides(book, door, guest)
sidechecker: lets_side(book, door, guest, thing)
sayings: free_to(book, door, guest) both_can_make(book, door, guest) behind_plan(book, door, guest, thing)
planchecker: lets_plan(book, door, guest, thing)
planning: plan_of(book, door, guest)
morepapers: more_paper(book, door, guest, *, than=0)
morechecker: lets_more(book, door, guest, thing, *, than=0)
harms: harmless(book, door, guest, helper)
easings: easing_of(book, door, guest, helper)
easingchecker: lets_easing(book, door, guest, helper, thing)
bars: sides_against(history, lot, door, guest) bar_of(history, lot, side) least_bar(history, lot, door, guest)
bars: strong_for(history, lot, door, guest)
bestplans: best_plan(history, lot, door, guest, *, most=4096)
falselots: false_lots(history, door, guest, *, count=1, since=0)
strengths: strength_of(history, lot, row, *, shown=()) full_strength(history, door, guest, lot, *, shown=())
strengths: weakest(history, door, guest, row, *, count=1, since=0, shown=())
rowsought: is_enough(history, door, guest, row, {SOUGHT}) sought(history, door, guest, {SOUGHT})
rowpapers: sought_paper(history, door, guest, {SOUGHT})
rowchecker: lets_sought(history, door, guest, thing, {SOUGHT})
timesleft: schedule_of(history, door, guest, {TIMES}) times_left(history, door, guest, {TIMES})
timesleft: lets_schedule(history, door, guest, thing, {TIMES})
fractions: is_fraction(thing) product_of(fractions) one_less(fraction)
ledgers: ledger_of(history, lot)
worldlogs: is_log(thing)
replaying: replayed(log)
worldtexts: row_line(row) log_lines(log)
worldreadings: read_row(text) read_log(lines)
"""
WORLD = """
__init__(self, hands, *, room=4)
meet_now(self, hands, sign)
fold_now(self, hand, one, other)
drop_now(self, hand, word)
say_now(self, hand, word)
ask_now(self, door, guest, row, answers, *, shown=())
greet_now(self, one, other, row, answers, *, back, backs)
history_now(self)
book_now(self)
signs_now(self)
seen_by(self, hand)
sign_for(self, hand, word)
visits(self)
visit_strengths(self, lot)
as_if(self, signs)
log(self)
__len__(self)
__str__(self)
__eq__(self, other)
__ne__(self, other)
undo(self)
do_all(self, rows, *, keep=False)
walks(self)
"""
DESK = """
__init__(self)
say(self, row)
"""


def parts(text):
    """The calls that stand in a row of the table."""
    told, rest = [], text
    while rest:
        end = rest.index(")", rest.index("("))
        # The default () has brackets of its own.
        while rest[:end + 1].count("(") != rest[:end + 1].count(")"):
            end = rest.index(")", end + 1)
        told.append(rest[:end + 1])
        rest = rest[end + 1:].strip()
    return told


class Interface(unittest.TestCase):
    def check(self, holder, call):
        name, things = call.split("(", 1)
        self.assertEqual(name + str(inspect.signature(vars(holder)[name])), name + "(" + things)

    def defined(self, module):
        tree = ast.parse((PACKAGE / f"{module}.py").read_text())
        return {node.name for node in tree.body if isinstance(node, (ast.FunctionDef, ast.ClassDef))}

    def test_functions(self):
        many = 0
        for line in TABLE.strip().split("\n"):
            module, text = line.split(": ", 1)
            holder = importlib.import_module(f"metbefore.{module}")
            for call in parts(text):
                self.check(holder, call)
                self.assertIn(call.split("(")[0], self.defined(module))
                many += 1
        self.assertEqual(many, 91)

    def test_classes(self):
        for module, name, text in (("worlds", "World", WORLD), ("worlddesk", "Desk", DESK)):
            self.assertIn(name, self.defined(module))
            holder = vars(importlib.import_module(f"metbefore.{module}"))[name]
            self.assertEqual(holder.__bases__, (object,))
            for call in text.strip().split("\n"):
                self.check(holder, call)
