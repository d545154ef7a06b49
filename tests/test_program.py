"""The whole program: every function of the interface stands where it should, and takes any value for any argument."""

import copy
import importlib
import inspect
import unittest

from groupdeeds import errors
from groupdeeds.errors import TooMany
from groupdeeds.parties import Party
from tests.helpers import ANY_VALUES, HUGE, Case, plain_groupings, plain_idle, plain_join, plain_steps

# Each function with its arguments; behind a colon stands what is asked for, where the name alone does not tell it.
INTERFACE = {
    "groupings": """groupings(size) grouping_count(size:count) step_done(grouping,step) done(grouping,row)
        traced(grouping,row)""",
    "order": """is_finer(one,other) met(one,other) put_together(one,other) finer_ones(grouping) coarser_ones(grouping)
        shares(one,other)""",
    "drawings": """idle(size) step_drawing(size,step) after(one:drawing,other:drawing) drawing(size,row) ties(drawing)
        drawn(drawing,grouping) mirrored(drawing) is_still(drawing) drawing_rest(drawing)""",
    "coming": """comes(drawing) shows_drawing_row(drawing,value) drawing_row(drawing) drawing_count(size,many)
        come_count(size)""",
    "deeds": """same_deed(one:drawing,other:drawing) shows_telling(one:drawing,other:drawing,value)
        telling(one:drawing,other:drawing) plain_drawing(drawing) crossed(drawing) deed_count(size) deeds_by_ties(size)""",
    "leading": """deeds(size) goes_on(one:drawing,other:drawing) shows_lead_row(one:drawing,other:drawing,value)
        lead_row(one:drawing,other:drawing) deed_length(drawing) shortest_deed(drawing)""",
    "stills": "stills(drawing) made_ones(drawing) made_from(drawing,grouping) forgets(drawing)",
    "moving": """distance(start,goal) farthest(grouping) way_count(start,goal,many) fewest(start,goal)
        shows_fewest(start,goal,value) around(grouping,many)""",
    "prices": """cheap_row(start,goal,prices) worths(goal,prices) shows_cheap_row(start,goal,prices,value)
        shows_price_paper(start,goal,prices,value)""",
    "chances": """after_chances(grouping,weights,many) long_chances(size,weights)
        together_chance(size,weights,one:person,other:person) mean_lots(size,weights) mean_first(start,goal,weights)""",
    "meeting": """apart_chance(one,other,weights,many) mean_meeting(one,other,weights)
        forgotten_chance(size,weights,many) tie_chances(size,weights,many)""",
    "sights": "fitting(size,sights) fits(drawing,sights) next_seen(size,sights,grouping) first_against(size,sights)",
    "rules": """allowed(grouping,rule) rule_row(start,goal,rule) rule_distance(start,goal,rule) rule_reached(start,rule)
        dead_ones(size,rule)""",
    "likings": """worth(grouping,likings) best_of_lots(size,likings,many) best_grouping(size,likings)
        shows_best_grouping(size,likings,value) is_calm(grouping,likings) calm_ones(size,likings)
        climb(grouping,likings)""",
    "nets": """best_net(start,likings,prices) best_stay(start,likings,prices,many)
        shows_best_net(start,likings,prices,value) shows_best_stay(start,likings,prices,many,value)
        stay_worths(likings,prices,many)""",
    "hands": "most_worth(start,likings,many) best_steps(start,likings,many)",
    "counting": """lots_counts(many) number_of(grouping) finer_count(grouping) coarser_count(grouping)
        chain_count(grouping) grouping_at(size,number)""",
    "names": """renamed(grouping,order) renamed_drawing(drawing,order) shape(grouping) alike(one,other)
        alike_drawings(one:drawing,other:drawing)""",
    "pieces": """parts(drawing) from_parts(before,behind,pairs) kept_part(drawing) same_before(one:drawing,other:drawing)
        same_behind(one:drawing,other:drawing)""",
    "middle": """sum_of_ways(grouping,some) farthest_of(grouping,some) shortest_count(start,goal) round_trip(one,other)
        middle_ones(some) between(start,goal)""",
    "texts": "write_grouping(grouping) write_row(row) read_grouping(text) read_row(text:row_text)",
    "changing": """changed_row(start,row,goal) shows_changed_row(start,row,goal,value) same_rows(drawing,many)""",
    "tours": """cheap_tour(start,stops,prices) shows_cheap_tour(start,stops,prices,value)
        tour_order(start,stops,prices)""",
    "forever": """best_mean(likings,prices) mean_paper(likings,prices) shows_best_mean(likings,prices,value)
        shows_mean_paper(likings,prices,value)""",
    "told": """fitting_groupings(size,told) fitting_count(size,told) sure_pairs(size,told) least_lots(size,told)
        nearest_fitting(grouping,told)""",
    "matching": """move_distance(one,other) best_matching(one,other) match_paper(one,other)
        shows_best_matching(one,other,value) shows_match_paper(one,other,value)""",
    "words": """word_of(grouping) crowd_word(crowd) grouping_of(word) crowd_distance(one:crowd,other:crowd)
        crowd_groups(crowd) crowd_shares(one:crowd,other:crowd)""",
    "limits": """limited_count(many,most) exact_count(many,lots,least) split_count(grouping,lots)
        limited_groupings(size,most)""",
}
KINDS = {"start": "grouping", "goal": "grouping", "one": "grouping", "other": "grouping", "before": "grouping",
         "behind": "grouping", "many": "count", "most": "count", "lots": "count", "least": "count"}
ERRORS = {"size": "BadSize", "count": "BadCount", "grouping": "BadGrouping", "step": "BadStep", "row": "BadRow",
          "drawing": "BadDrawing", "prices": "BadPrices", "weights": "BadWeights", "person": "BadPerson",
          "sights": "BadSights", "rule": "BadRule", "likings": "BadLikings", "number": "BadNumber", "order": "BadOrder",
          "pairs": "BadTies", "some": "BadGroupings", "text": "NotText", "row_text": "NotText", "stops": "BadStops",
          "told": "BadTold", "word": "BadWord", "crowd": "BadCrowd"}
# For functions that take few people, the most that they take.
MOST = {"deeds": 3, "deed_length": 4, "shortest_deed": 4, "long_chances": 4, "together_chance": 4, "mean_lots": 4,
        "mean_first": 4, "apart_chance": 4, "mean_meeting": 3, "tie_chances": 3, "forgotten_chance": 3, "fitting": 3,
        "next_seen": 3, "first_against": 3, "alike_drawings": 5, "same_rows": 3, "best_mean": 3, "mean_paper": 3,
        "shows_best_mean": 3, "shows_mean_paper": 3}
# Values within one another.
NESTED = ([[]], [{}], {0: []}, {0: {1: (2, [3])}}, ({0: 1},), ([0], {0: [1]}), [(0, 1), {"a": None}], ((((0,),),),) * 2,
          ((0, [1]), (1, [0])), (None, True), ((True, False),), ("0", ("1",)), [HUGE, -HUGE], ((HUGE,), (-HUGE,)),
          {(0, 1): 2}, {"0": "1"}, (((0,), (0,)), [((1,), (1,))]), "0 / 1", "0+1", "\u0660", (1, 2, 3), ((1, 2), (3,)),
          (((0,), {}),), (0, 0, {}), ((0,), [], 1), ((), ((0, 1),), []))


def functions():
    """Return, for each function of the interface, (module, function, names of its arguments, what they ask for)."""
    found = []
    for module, told in INTERFACE.items():
        for call in "".join(told.split()).replace(")", ") ").split():
            name, arguments = call[:-1].split("(")
            pairs = [(one.split(":")[0], one.split(":")[-1]) for one in arguments.split(",")]
            found.append((module, getattr(importlib.import_module(f"groupdeeds.{module}"), name),
                          [pair[0] for pair in pairs], [KINDS.get(pair[1], pair[1]) for pair in pairs]))
    return found


def good_values(size):
    """Return a good value of each kind; the drawing comes and has two ties."""
    grouping, rest = plain_groupings(size)[-1], tuple(range(2, size))
    drawing = [((), (one,)) for one in rest] + [((0,), (0,)), ((1,), (1,))] + [((one,), ()) for one in rest]
    steps = plain_steps(size)
    pairs = tuple(step for step in steps if len(step) == 2)
    return {"size": size, "count": 1, "grouping": grouping, "step": (0, 1), "row": ((0,), (0, 1)),
            "drawing": tuple(drawing), "prices": ((2,) * size, (3,) * len(pairs)),
            "weights": ((1, len(steps)),) * len(steps), "person": 1, "sights": ((grouping, grouping),),
            "rule": ((0,), ((0, 1),), 2), "likings": (1,) * len(pairs), "number": 0, "order": tuple(range(size))[::-1],
            "pairs": ((0, 0),), "some": (grouping,), "text": "0 / 1", "row_text": "0-", "stops": (grouping,),
            "told": (((0, 1),), ()), "word": (0, 1), "crowd": (5, 999), "value": None}


def error_of(kind):
    return getattr(errors, ERRORS[kind])


def bad_value(kind):
    """Return a value that is surely none of a kind."""
    return (7, None) if kind in ("text", "row_text") else "?"


class Interface(Case):
    def test_every_function_stands_in_its_file(self):
        for module, call, names, _ in functions():
            self.assertTrue(inspect.isfunction(call))
            self.assertEqual(call.__module__, f"groupdeeds.{module}")
            self.assertEqual(list(inspect.signature(call).parameters), names, call.__name__)
        self.assertEqual(len(functions()), 140)

    def test_party(self):
        self.assertEqual(Party.__module__, "groupdeeds.parties")
        for name, told in (("__init__", "size"), ("join", "one other"), ("leave", "one"), ("groups", ""), ("steps", ""),
                           ("drawing", ""), ("undo", "")):
            self.assertEqual(list(inspect.signature(vars(Party)[name]).parameters), ["self"] + told.split())


class AnyValue(Case):
    def test_good_arguments(self):
        for size in (2, 3):
            good = good_values(size)
            for _, call, _, kinds in functions():
                arguments = [good[kind] for kind in kinds]
                first = call(*arguments)
                self.assertEqual(arguments, [good_values(size)[kind] for kind in kinds], call.__name__)
                self.assertEqual(call(*copy.deepcopy(arguments)), first, call.__name__)

    def test_any_value_for_any_argument(self):
        """A function answers or raises the error of the argument, or of one to its right, and changes nothing."""
        good = good_values(3)
        for _, call, _, kinds in functions():
            for place, kind in enumerate(kinds):
                allowed = tuple(error_of(one) for one in kinds[place:] if one != "value")
                allowed = allowed + (TooMany, errors.NoRow, errors.NoTwo, errors.InvalidText)
                for value in ANY_VALUES + NESTED:
                    arguments = [good[one] for one in kinds]
                    arguments[place] = copy.deepcopy(value)
                    before = repr(arguments)
                    try:
                        answer = call(*arguments)
                        if kind == "value":
                            self.assertIn(repr(answer), ("True", "False"), f"{call.__name__}: {value!r}")
                    except allowed:
                        self.assertNotEqual(kind, "value", f"{call.__name__}: {value!r}")
                    self.assertEqual(repr(arguments), before, call.__name__)

    def test_values_that_are_never_good(self):
        """Lists and dicts, booleans, None and great numbers are not allowed anywhere."""
        good = good_values(3)
        for _, call, _, kinds in functions():
            for place, kind in enumerate(kinds):
                for value in (None, True, False, [], [0], [[0]], {}, {0: 0}, {(0,): [1]}, -HUGE, HUGE, ([],), ({},), (None,)):
                    if kind != "value":
                        arguments = [good[one] for one in kinds]
                        arguments[place] = value
                        self.fails((error_of(kind), {}, value), call, *arguments)

    def test_true_is_not_one(self):
        for size in (2, 3):
            good = good_values(size)
            for _, call, _, kinds in functions():
                for place, kind in enumerate(kinds):
                    found = {"size": True, "count": True, "person": True, "number": False, "step": (False, True),
                             "row": ((False,),), "grouping": ((False, True),), "order": (True, False), "word": (0, True),
                             "crowd": (5, True), "drawing": (((0, True), (0, 1)),), "pairs": ((False, 0),)}
                    if kind in found:
                        arguments = [good[one] for one in kinds]
                        arguments[place] = found[kind]
                        self.fails((error_of(kind), {}, None), call, *arguments)


class Order(Case):
    def test_the_leftmost_error(self):
        good = good_values(3)
        for _, call, _, kinds in functions():
            for place, kind in enumerate(kinds):
                for later in range(place + 1, len(kinds)):
                    if kind != "value":
                        arguments = [good[one] for one in kinds]
                        arguments[place], arguments[later] = bad_value(kind), bad_value(kinds[later])
                        self.fails((error_of(kind), {}, None), call, *arguments)
                        arguments = arguments[:place + 1] + [bad_value(one) for one in kinds[place + 1:]]
                        self.fails((error_of(kind), {}, None), call, *arguments)

    def test_too_many_people(self):
        taken = {call.__name__ for _, call, _, _ in functions()}
        self.assertLessEqual(set(MOST), taken)
        for _, call, _, kinds in functions():
            if call.__name__ in MOST:
                most = MOST[call.__name__]
                good = good_values(most)
                call(*[good[kind] for kind in kinds])
                for size in range(most + 1, 7):
                    good = good_values(size)
                    self.fails((TooMany, {"most": most}, None), call, *[good[kind] for kind in kinds])
                    for place, kind in enumerate(kinds):
                        if kind != "value":
                            arguments = [good[one] for one in kinds]
                            arguments[place] = bad_value(kind)
                            self.fails((error_of(kind), {}, None), call, *arguments)

    def test_all_others_take_six_people(self):
        good = good_values(6)
        for _, call, _, kinds in functions():
            if call.__name__ not in MOST:
                call(*[good[kind] for kind in kinds])

    def test_second_values_of_another_size(self):
        """Behind the argument that tells the size, those of another size have their own errors."""
        sized = ("grouping", "drawing", "row", "step", "prices", "weights", "sights", "likings", "order", "some", "stops",
                 "told", "rule")
        good, greater = good_values(2), good_values(3)
        greater = {**greater, "row": ((1, 2),), "step": (2,), "told": (((1, 2),), ()), "rule": ((2,), (), 1)}
        for _, call, _, kinds in functions():
            for place, kind in enumerate(kinds):
                if place > 0 and kind in sized:
                    arguments = [good[one] for one in kinds]
                    arguments[place] = greater[kind]
                    self.fails((error_of(kind), {}, None), call, *arguments)

    def test_none_is_never_the_index_of_a_bad_thing(self):
        """What is no such tuple has no index; the first bad thing in one has."""
        good = good_values(3)
        for _, call, _, kinds in functions():
            for place, kind in enumerate(kinds):
                if kind in ("row", "sights", "some", "stops", "rule", "told"):
                    bads = [("?", None)]
                    if kind in ("row", "sights", "some", "stops"):
                        bads += [(good[kind] + (None,), len(good[kind])), ((None,) + good[kind], 0), (good[kind] * 50, None)]
                    if kind == "rule":
                        bads += [((None,) + good[kind][1:], 0), (good[kind][:2] + (None,), 2), (good[kind][:2], None)]
                    if kind == "told":
                        bads += [((((1, 0),), ()), 0), (((), ((1, 0),)), 1), ((None, ()), None), (((),), None)]
                    for value, index in bads:
                        arguments = [good[one] for one in kinds]
                        arguments[place] = value
                        self.fails((error_of(kind), {"index": index}, value), call, *arguments)


class Parties(Case):
    def test_any_value(self):
        for value in ANY_VALUES + NESTED:
            before = repr(value)
            try:
                Party(value)
            except errors.BadSize:
                pass
            party = Party(3)
            party.join(0, 1)
            for call in (party.leave, lambda one: party.join(one, 2), lambda one: party.join(2, one)):
                told = [party.groups(), party.steps(), party.drawing()]
                try:
                    call(value)
                    self.assertIn(value, (0, 1, 2))
                    party.undo()
                except errors.BadPerson:
                    pass
                self.assertEqual([party.groups(), party.steps(), party.drawing()], told)
            self.assertEqual(repr(value), before)

    def test_drawings_of_more_people_than_are_taken(self):
        """A party has as many people as any size."""
        for size in range(1, 7):
            party = Party(size)
            for person in range(1, size):
                party.join(0, person)
            self.assertEqual([party.drawing(), party.groups()], [plain_join(size), (tuple(range(size)),)])
            for _ in range(1, size):
                party.undo()
            self.assertEqual(party.drawing(), plain_idle(size))


if __name__ == "__main__":
    unittest.main()
