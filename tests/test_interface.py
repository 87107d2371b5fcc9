"""Names and arguments of the interface, each defined in the file under which it is listed."""

import ast
import inspect
import importlib
import os
import unittest

TOP = os.path.dirname(os.path.dirname(os.path.abspath(__file__)))
FUNCTIONS = {
    "forms": """
        is_integer(thing) is_fraction(thing) is_polynomial(many,thing) is_program(thing)
        are_inputs(program,thing) is_past(program,thing) is_throw(thing)
    """,
    "fractions": """
        reduced(num,den) added(one,other) lessened(one,other) times(one,other) over(one,other)
        total_of(fractions) power_of(one,count) size_of(one) least_of(fractions) greatest_of(fractions)
        whole_below(one) is_less(one,other) is_ahead(one,other) in_order(fractions)
    """,
    "polynomials": """
        unit(many,place) constant(many,fraction) plus(one,other) minus(one,other) multiplied(one,other)
        scaled(one,fraction) put_in(one,place,other) part_by(one,place,count) worth_at(one,values)
        degree_in(one,place)
    """,
    "programs": """
        roundings_of(program) choices_of(program) hangs_on(program,step) beside(one,other,word)
    """,
    "texts": "show_program(program) read_program(text)",
    "worths": """
        values_of(program,inputs,past) result_of(program,inputs,past) argument_of(program,inputs,past)
        exact_result(program,inputs) errors_of(program,inputs,past) exact_past(program,inputs)
    """,
    "rules": """
        mean_of_throw(throw) chance_of(program,inputs,rule,past) mean_of(program,inputs,rule)
        square_of(program,inputs,rule) two_throw(low,mean,high) result_throw(program,inputs,rule)
        is_rule(program,inputs,thing) pasts_that_come(program,inputs,rule,count)
    """,
    "errorthrows": "are_error_throws(program,thing) are_even(throws) rule_of(program,inputs,throws)",
    "rounded": "rounded_result(program) rounded_argument(program,rounding) later_exact(program,count)",
    "right": "bends(program) bends_at(program,inputs) is_right(program) right_at(program,inputs)",
    "counters": """
        gap_of(program,inputs,rule) is_counter(program,thing) is_short(program,inputs,rule) counter_of(program)
        counter_at(program,inputs)
    """,
    "lots": "error_polynomial(program) error_lots(program) lots_at(program,inputs) merged_lots(program,classes)",
    "kinds": """
        bad_lots(program,word) is_mild(program) is_own_right(program) is_even_right(program)
        is_shared_right(program,classes) kind_of(program)
    """,
    "kindcounters": """
        own_counter(program) even_counter(program) is_own_counter(program,thing) is_even_counter(program,thing)
    """,
    "spread": """
        square_parts(program,inputs,widths) greatest_square(program,inputs,widths)
        greatest_error(program,inputs,widths) widest_throws(program,widths) worst_errors(program,inputs,widths)
        is_within(program,inputs,widths,thing)
    """,
    "wider": """
        is_never_wider(one,other,inputs) wider_lots(one,other,inputs) parting_widths(one,other,inputs)
    """,
    "draws": """
        fewest_draws(many,goal) use_for(many,goal,counts) is_fair(many,goal,counts,use)
        use_mean(counts,use,values,rule) unfair_rule(many,goal,counts,use)
    """,
    "anew": "anew(program,lot) anew_roundings(program,lot) least_anew(program)",
    "loops": """
        is_loop(thing) exact_round(loop) values_behind(loop,values,count) led_goal(loop,goal,count)
        mean_behind(loop,goal,values,count,rule) round_program(loop,goal)
    """,
    "levels": "levels_of(loop) weights_of(loop) members_many(loop,goal)",
    "forever": """
        span_of(loop,goal) is_span(loop,goal,thing) right_for_ever(loop,goal) is_loop_counter(loop,goal,thing)
        first_amiss(loop,goal) loop_counter(loop,goal)
    """,
    "reaches": """
        multiples(number,grain,width) next_values(program,inputs,grains,past)
        grain_pasts(program,inputs,grains,count) is_on_grains(program,inputs,grains,thing)
    """,
    "grainmeans": """
        greatest_mean(program,inputs,grains) least_mean(program,inputs,grains)
        greatest_plan(program,inputs,grains) least_plan(program,inputs,grains)
    """,
    "lines": """
        upper_paper(program,inputs,grains) lower_paper(program,inputs,grains)
        is_upper_paper(program,inputs,grains,thing) is_lower_paper(program,inputs,grains,thing)
        paper_bound(program,inputs,paper)
    """,
    "sides": """
        sides_of(program,inputs,grains) mean_span(program,inputs,grains,lot) safe_lots(program,inputs,grains)
    """,
    "neighbours": """
        neighbours_of(number,grain) neighbour_throw(number,grain) neighbour_result(program,inputs,grains)
        neighbour_rule(program,inputs,grains) is_neighbour_rule(program,inputs,grains,thing)
    """,
    "again": "again_throw(number,grains) is_once(grains) once_parting(grains)",
    "samethrow": """
        matchings(one,other) same_throw(one,other) matched_throws(matching,throws)
        parting_throws(one,other,matching)
    """,
    "moves": "moves_of(program) moved(program,move)",
    "movedkinds": """
        kinds_behind(program) squares_behind(program,inputs,width)
        least_by_moves(program,inputs,width,words,most)
    """,
}
CLASSES = {
    ("live", "Live"): """
        __init__(self,program) __eq__(self,other) put(self,step) change(self,index,step) owe(self,duty) back(self)
        again(self) take(self) free(self,index) program_now(self) duties(self) kind(self) twin(self)
    """,
    ("desk", "Desk"): "__init__(self,text) execute(self,line) live(self)",
}
ERRORS = """
    ChanceError(args) Wrong(place) NoText(line) NoQuotient() TooMany(most) NotPlain(step) NotMild(lot)
    NotByLevels(state) Broken(duty) Nothing() NoCommand()
"""


def defined_in(name):
    with open(os.path.join(TOP, "chancegrain", name + ".py"), encoding="utf-8") as file:
        return {node.name: node for node in ast.parse(file.read()).body if hasattr(node, "name")}


class Interface(unittest.TestCase):
    def test_functions(self):
        for name, listed in FUNCTIONS.items():
            module = importlib.import_module("chancegrain." + name)
            found = defined_in(name)
            for signature in listed.split():
                word, _, told = signature.rstrip(")").partition("(")
                self.assertIsInstance(found.get(word), ast.FunctionDef, signature)
                parameters = inspect.signature(getattr(module, word)).parameters
                self.assertEqual(",".join(parameters), told, signature)

    def test_classes(self):
        for (name, word), listed in CLASSES.items():
            module = importlib.import_module("chancegrain." + name)
            found = {node.name: node for node in defined_in(name)[word].body if hasattr(node, "name")}
            for signature in listed.split():
                method, _, told = signature.rstrip(")").partition("(")
                self.assertIsInstance(found.get(method), ast.FunctionDef, signature)
                parameters = inspect.signature(getattr(getattr(module, word), method)).parameters
                self.assertEqual(",".join(parameters), told, signature)

    def test_errors(self):
        module = importlib.import_module("chancegrain.errors")
        found = defined_in("errors")
        for signature in ERRORS.split():
            word, _, told = signature.rstrip(")").partition("(")
            self.assertIsInstance(found.get(word), ast.ClassDef, signature)
            if word != "ChanceError":
                parameters = inspect.signature(getattr(module, word)).parameters
                self.assertEqual(",".join(parameters), told, signature)
