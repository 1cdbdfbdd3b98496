import importlib
import inspect
import unittest

ROWS = """
houses: beside(house, room)
ways: way(house, one, other); least_way(house, some); meeting(house, one, other, third); behind(house, room, other)
woods: is_woods(house, thing); spread(house, woods, one, other)
fires: is_fire(house, woods, thing); first_of(house, woods, fire); lit_from(house, woods, fire); \
burnt_out(house, woods, fire)
books: is_book(house, thing); fits(house, woods, book, fire); part_book(house, book, some)
otherhouses: part_of(house, some); built_on(house, room, name); joined_by(one, other, room, far); renamed(house, names)
twohours: between(house, woods, first, one, other); rooms_for(house, woods, one, other, hours); \
apart_by(house, woods, one, other)
builtfires: fire_for(house, woods, book); paper_for(house, woods, book); is_paper(house, woods, book, thing)
hourspans: keeps_to(house, woods, spans, fire); fire_within(house, woods, spans); span_paper(house, woods, spans); \
is_span_paper(house, woods, spans, thing); rooms_within(house, woods, spans)
claimlists: can_all_be(house, woods, claims); claim_clash(house, woods, claims)
mostclaims: most_right(house, woods, claims); right_ones(house, woods, claims); fire_of_most(house, woods, claims); \
always_right(house, woods, claims); always_false(house, woods, claims)
firstrooms: first_paper(house, woods, book, first); early_from(house, woods, book, first); \
late_from(house, woods, book, first); hours_from(house, woods, book, first, room); first_rooms(house, woods, book); \
begin_hours(house, woods, book); door_ways(house, woods, book)
firsthours: could_be(house, woods, book, room); earliest_hours(house, woods, book); \
latest_hours(house, woods, book); sure_hours(house, woods, book); telling_hours(house, woods, book, room); \
begun_hours(house, woods, book); begun_first(house, woods, book); begun_last(house, woods, book)
steps: steps_of(house, woods, fire); fire_by(house, woods, first, steps)
firecounts: count_fires(house, woods); count_from(house, woods, room); last_counts(house, woods); \
count_lit_by(house, woods, hours); fire_lit_at(house, woods, hours)
firenumbers: fire_at(house, woods, number); fire_number(house, woods, fire); next_fire(house, woods, fire); \
drawn_fire(house, woods, chooser)
fittings: count_fitting(house, woods, book); count_by_first(house, woods, book); \
hour_counts(house, woods, book, room)
fittingnumbers: fitting_at(house, woods, book, number); fitting_number(house, woods, book, fire)
lengths: fire_length(house, woods, fire); burning(house, woods, fire, hour); most_burning(house, woods, fire); \
lengths_from(house, woods, first); length_fire(house, woods, first, length); all_lengths(house, woods); \
short_fire(house, woods, length); too_far(house, woods, length)
lastones: last_fire(house, woods, first, room); outlasting(house, woods, first, room); last_ones(house, woods)
booklengths: lengths_by(house, woods, book, first); lengths_of_book(house, woods, book); \
fitting_fire(house, woods, book, length)
atonce: at_once(house, woods, some); not_at_once(house, woods, some); most_at_once(house, woods); \
crowded_fire(house, woods)
morewood: cheapest_more(house, woods, prices, length); cheapest_less(house, woods, prices, length)
sayings: broken_ones(house, woods, sayings, fire); early_fire(house, woods, first, sayings); \
late_fire(house, woods, first, sayings); ring_by(house, woods, first, sayings); \
is_ring_by(house, woods, first, sayings, thing)
closest: bounds(house, woods, first, sayings, one, other); row_by(house, woods, first, sayings, one, other); \
ahead_word(house, woods, first, sayings, one, other); sure_ahead(house, woods, first, sayings); \
follows(house, woods, first, sayings, saying); needless(house, woods, first, sayings)
firstsby: firsts_by(house, woods, sayings); wood_wanted(house, woods, first, sayings, room); \
shortest_clash(house, woods, first, sayings); least_core(house, woods, first, sayings); \
count_by(house, woods, first, sayings)
drafts: is_shut(house, thing); unsafe_at(house, woods, shut); blown_out(house, woods, drafts, fire); \
drafty_span(house, woods, drafts, one, other, hour); drafty_back(house, woods, drafts, one, other, hour); \
lit_hours(house, woods, shut, one, other, hour)
draftyfires: drafty_fire(house, woods, drafts, book); drafty_paper(house, woods, drafts, book); \
is_drafty_paper(house, woods, drafts, book, thing); drafty_firsts(house, woods, drafts, book); \
drafty_hours(house, woods, drafts, book, room)
draftycounts: drafty_count(house, woods, drafts, book); drafty_at(house, woods, drafts, book, number)
opendoors: open_fire(house, woods, opens, book); open_paper(house, woods, opens, book); walled(house, one, other); \
why_two(house, woods, one, other, fire, far)
blazes: is_blaze(house, woods, thing); late_door(house, woods, whole); made_rooms(house, woods, blaze); \
fire_meetings(house, woods, blaze); whose_fire(house, woods, blaze, room)
blazebooks: blaze_of(house, woods, book); late_pair(house, woods, book); blaze_hours(house, woods, book, room)
blazecounts: blaze_count(house, woods); blazes_by_fires(house, woods); blaze_at(house, woods, number); \
blaze_number(house, woods, blaze); made_chance(house, woods, room); mean_fires(house, woods)
madefires: made_blaze(house, woods, made); made_late(house, woods, made); made_hours(house, woods, made, room)
twofires: meeting_doors(house, woods, book, one, other); two_fires(house, woods, book, one, other); \
two_paper(house, woods, book, one, other)
fewfires: fire_numbers(house, woods, book); few_blaze(house, woods, book, number)
branches: comes_in(branch); rim_hours(branch); goes_out(branch); inner_fire(branch, hour); outer_fire(branch, hour); \
hung(one, room, other); cut_off(house, woods, book, room, other); span_from(hour, wood, spans)
alikebranches: meeting_hours(one, other); have_fire(one, other); parting_hours(one, other); \
is_parting(one, other, thing); told_branch(least, most, last); closed_branch(least, most)
slacks: slack(house, woods, watchers, room, some); alike_fires(house, woods, watchers, one, other); \
kept_apart(house, woods, watchers, one, other); alike_rooms(house, woods, watchers, room)
telling: tell_first(house, woods, watchers); doubtful_fires(house, woods, watchers); \
doubtful_doors(house, woods, watchers); can_be_spared(house, woods, watchers)
fewestwatchers: fewest_watchers(house, woods); cheapest_watchers(house, woods, prices)
lookers: run_looker(house, woods, fire, looker); beat_looker(house, woods, looker)
backwoods: woods_of(house, books); no_woods(house, books); least_wood(house, woods, book, first, room); \
wanting_pair(house, woods, book, first, room)
stretches: fewest_hours(house, book, first); apart_pairs(house, book, first); apart_worth(house, book, first, thing)
tours: is_tour(house, thing); tour_hours(house, back, tour); late_in_tour(house, woods, back, tour)
toursfrom: tour_from(house, woods, back, first); short_room(house, woods, back, first); \
firsts_of_tours(house, woods, back); last_rooms(house, woods, back, first); tour_lengths(house, woods, back, first); \
lacking_wood(house, woods, back, first); least_wanted(house, woods, back)
tournumbers: count_tours(house, woods, back, first); tour_numbered(house, woods, back, first, number); \
tour_number(house, woods, back, tour); next_tour(house, woods, back, tour)
tourhours: lit_counts(house, woods, back, first, room); count_by_book(house, woods, back, book); \
tour_by_book(house, woods, back, book)
walks: is_walk(house, woods, thing); shortest_walk(house, woods, first)
firechances: first_chances(house, woods); door_chance(house, woods, one, other); hour_chances(house, woods, room); \
mean_hours(house, woods); gap_chances(house, woods, one, other); ahead_chances(house, woods, one, other)
litchances: lit_chances(house, woods, hours); last_chances(house, woods); mean_last(house, woods); \
surely_by(house, woods, chance); mean_burning(house, woods, hours)
given: first_given(house, woods, book); door_given(house, woods, book, one, other); \
hour_given(house, woods, book, room); mean_given(house, woods, book); gap_given(house, woods, book, one, other); \
ahead_given(house, woods, book, one, other)
onehourmore: left_mean(house, woods, book, room); first_known(house, woods, book, room); best_asked(house, woods, book)
cottagetexts: write_cottage(cottage); read_cottage(text)
orders: is_order(house, thing); order_of(house, woods, fire); fire_in_order(house, woods, order); \
order_fault(house, woods, order)
longorders: longest_in_order(house, woods, order); worth_of_row(house, woods, order, thing); \
bounds_row(house, woods, order); fire_lasting(house, woods, order, hours)
ordercounts: count_orders_from(house, woods, first); count_orders(house, woods); orders_from(house, woods, first)
brands: order_within(house, woods, many); least_brands(house, woods)
"""

METHODS = {
    ("houses", "House"): ("(rooms, doors)", ["rooms()", "doors()", "__len__()", "__eq__(other)"]),
    ("branches", "Branch"): ("(house, rim, woods, book)", ["house()", "rim()", "woods()", "book()", "__eq__(other)"]),
    ("cottages", "Cottage"): ("(room, wood)", [
        "now()", "woods()", "book()", "hour()", "watched()", "do(deed)", "is_question(thing)", "answer(question)",
        "would(deed)", "could_note(room)", "mending_rooms()", "count()", "deeds()", "undo()", "again()", "copy()",
        "at(number)", "trial(work)", "__eq__(other)"])}


def listed_functions():
    """The triples of the file, the function and its parameters, of all that the interface lists."""
    for row in ROWS.strip().split("\n"):
        place, _, calls = row.partition(": ")
        for told in calls.split("; "):
            name, _, rest = told.partition("(")
            yield place, name, rest[:-1].split(", ")


class Interface(unittest.TestCase):
    """[2]: names, order of parameters, and the file in which each stands"""

    def test_functions(self):
        many = 0
        for place, name, parameters in listed_functions():
            module = importlib.import_module(f"hearths.{place}")
            call = getattr(module, name)
            self.assertEqual(list(inspect.signature(call).parameters), parameters)
            self.assertEqual(call.__module__, module.__name__)
            self.assertTrue(inspect.isfunction(call))
            many += 1
        self.assertEqual(many, 229)

    def test_classes(self):
        for (place, name), (made_of, methods) in METHODS.items():
            kind = getattr(importlib.import_module(f"hearths.{place}"), name)
            self.assertEqual(str(inspect.signature(kind)), made_of)
            self.assertEqual((kind.__module__, kind.__bases__), (f"hearths.{place}", (object,)))
            for told in methods + ["__init__" + made_of]:
                method, _, rest = told.partition("(")
                self.assertIn(method, vars(kind))
                parameters = list(inspect.signature(vars(kind)[method]).parameters)
                self.assertEqual(parameters[1:], [part for part in rest[:-1].split(", ") if part])

    def test_files(self):
        """each file of the interface is there, errors beside them"""
        places = {place for place, _, _ in listed_functions()} | {place for place, _ in METHODS} | {"errors"}
        self.assertEqual(len(places), 60)
        for place in places:
            importlib.import_module(f"hearths.{place}")


if __name__ == "__main__":
    unittest.main()
