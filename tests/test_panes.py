import itertools
import unittest

from cardplaces.errors import NoPane, NoPlace, Taken
from cardplaces.panes import Panes

A, B, C, D = ("a",), ("b",), ("c",), ("d",)


def panes_of(names, *visits):
    """Panes of these names, each showing the place without words, and these visits, each a name and a place."""
    panes = Panes()
    for name in names:
        panes.add(name, ())
    for name, place in visits:
        panes.visit(name, place)
    return panes


class PanesTest(unittest.TestCase):
    def check(self, panes, shown, steps, done):
        self.assertEqual({name: panes.place(name) for name in panes.names()}, shown)
        self.assertEqual(panes.names(), sorted(shown))
        self.assertEqual(panes.steps(), steps)
        self.assertEqual(panes.done(), done)


class AddTest(PanesTest):
    def test_at_first(self):
        self.check(Panes(), {}, [], 0)
        self.assertEqual(Panes().names(), [])

    def test_add(self):
        panes = Panes()
        self.assertIsNone(panes.add("x", A))
        self.check(panes, {"x": A}, [], 0)
        panes.add("y", ())
        self.check(panes, {"x": A, "y": ()}, [], 0)

    def test_panes_may_show_one_place(self):
        panes = panes_of("xy")
        self.check(panes, {"x": (), "y": ()}, [], 0)

    def test_any_text_is_a_name(self):
        names = ["", " ", "a", "Long and with blanks", "/", "..", "x\ny", "0"]
        panes = Panes()
        for spot, name in enumerate(names):
            panes.add(name, ("abcdefgh"[spot],))
        for spot, name in enumerate(names):
            self.assertEqual(panes.place(name), ("abcdefgh"[spot],))
        self.assertRaises(Taken, panes.add, "", A)

    def test_taken(self):
        panes = panes_of("xy", ("x", A), ("y", B))
        panes.back()
        for name, place in itertools.product("xy", [(), A, B, C]):
            self.assertRaises(Taken, panes.add, name, place)
            self.check(panes, {"x": A, "y": ()}, [("x", (), A), ("y", (), B)], 1)

    def test_names_rise(self):
        for names in itertools.permutations(["b", "a", "B", "ab", "", "10", "9"]):
            self.assertEqual(panes_of(names).names(), ["", "10", "9", "B", "a", "ab", "b"])

    def test_an_added_pane_leaves_the_steps(self):
        panes = panes_of("x", ("x", A), ("x", B))
        panes.back()
        panes.add("y", C)
        self.check(panes, {"x": A, "y": C}, [("x", (), A), ("x", A, B)], 1)
        self.assertEqual(panes.forth(), "x")
        panes.back()
        panes.back()
        self.assertRaises(NoPlace, panes.back)
        self.check(panes, {"x": (), "y": C}, [("x", (), A), ("x", A, B)], 0)

    def test_no_pane(self):
        for panes in [Panes(), panes_of("xy", ("x", A), ("y", B), ("x", C))]:
            if panes.names():
                panes.back()
            shown, steps, done = {name: panes.place(name) for name in panes.names()}, panes.steps(), panes.done()
            for name in ["z", "", "X", "xy", "x "]:
                self.assertRaises(NoPane, panes.place, name)
                self.assertRaises(NoPane, panes.visit, name, A)
                self.assertRaises(NoPane, panes.back_in, name)
                self.assertRaises(NoPane, panes.close, name)
                self.assertRaises(NoPane, panes.seen, name)
                self.check(panes, shown, steps, done)

    def test_panes_are_apart(self):
        one, other = Panes(), Panes()
        one.add("x", A)
        self.check(other, {}, [], 0)
        other.add("x", B)
        one.visit("x", C)
        self.check(other, {"x": B}, [], 0)


class VisitTest(PanesTest):
    def test_a_step(self):
        panes = panes_of("xy")
        self.assertIsNone(panes.visit("x", A))
        self.check(panes, {"x": A, "y": ()}, [("x", (), A)], 1)
        panes.visit("y", B)
        panes.visit("x", C)
        self.check(panes, {"x": C, "y": B}, [("x", (), A), ("y", (), B), ("x", A, C)], 3)

    def test_the_place_that_is_shown_already(self):
        panes = panes_of("x", ("x", ()), ("x", A), ("x", A))
        self.check(panes, {"x": A}, [("x", (), ()), ("x", (), A), ("x", A, A)], 3)
        panes.back()
        self.check(panes, {"x": A}, [("x", (), ()), ("x", (), A), ("x", A, A)], 2)
        panes.visit("x", A)
        self.check(panes, {"x": A}, [("x", (), ()), ("x", (), A), ("x", A, A)], 3)
        self.assertRaises(NoPlace, panes.forth)

    def test_behind_steps_that_were_undone(self):
        panes = panes_of("xy", ("x", A), ("y", B), ("x", C))
        panes.back()
        panes.back()
        panes.visit("y", D)
        self.check(panes, {"x": A, "y": D}, [("x", (), A), ("y", (), D)], 2)
        self.assertRaises(NoPlace, panes.forth)

    def test_behind_all_steps_undone(self):
        panes = panes_of("xy", ("x", A), ("y", B))
        panes.back()
        panes.back()
        panes.visit("x", B)
        self.check(panes, {"x": B, "y": ()}, [("x", (), B)], 1)

    def test_the_same_visit_behind_its_undoing(self):
        panes = panes_of("xy", ("x", A), ("y", B))
        panes.back()
        panes.back()
        panes.visit("x", A)
        self.check(panes, {"x": A, "y": ()}, [("x", (), A)], 1)

    def test_a_refused_visit_leaves_what_was_undone(self):
        panes = panes_of("x", ("x", A), ("x", B))
        panes.back()
        self.assertRaises(NoPane, panes.visit, "y", C)
        self.check(panes, {"x": A}, [("x", (), A), ("x", A, B)], 1)
        self.assertEqual(panes.forth(), "x")
        self.check(panes, {"x": B}, [("x", (), A), ("x", A, B)], 2)


class BackForthTest(PanesTest):
    STEPS = [("x", (), A), ("y", (), B), ("x", A, C), ("z", (), D), ("y", B, ())]
    SHOWN = [{"x": (), "y": (), "z": ()}, {"x": A, "y": (), "z": ()}, {"x": A, "y": B, "z": ()},
             {"x": C, "y": B, "z": ()}, {"x": C, "y": B, "z": D}, {"x": C, "y": (), "z": D}]

    def test_there_and_back(self):
        panes = panes_of("xyz", *[(name, behind) for name, ahead, behind in self.STEPS])
        for turn in range(2):
            self.check(panes, self.SHOWN[5], self.STEPS, 5)
            self.assertRaises(NoPlace, panes.forth)
            self.check(panes, self.SHOWN[5], self.STEPS, 5)
            for done in (4, 3, 2, 1, 0):
                self.assertEqual(panes.back(), self.STEPS[done][0])
                self.check(panes, self.SHOWN[done], self.STEPS, done)
            self.assertRaises(NoPlace, panes.back)
            self.check(panes, self.SHOWN[0], self.STEPS, 0)
            for done in (1, 2, 3, 4, 5):
                self.assertEqual(panes.forth(), self.STEPS[done - 1][0])
                self.check(panes, self.SHOWN[done], self.STEPS, done)

    def test_without_any(self):
        for panes in [Panes(), panes_of("xy")]:
            self.assertRaises(NoPlace, panes.back)
            self.assertRaises(NoPlace, panes.forth)
            self.assertEqual((panes.steps(), panes.done()), ([], 0))

    def test_told_lists_are_new_ones(self):
        panes = panes_of("xy", ("x", A), ("y", B))
        panes.back()
        for told in (panes.names, panes.steps, lambda: panes.seen("x"), lambda: panes.seen("y")):
            self.assertIsInstance(told(), list)
            wanted = list(told())
            told().append("z")
            told().clear()
            told()[0] = "z"
            self.assertEqual(told(), wanted)
        panes = panes_of("x")
        panes.steps().append(("x", (), A))
        panes.seen("x").append(A)
        self.assertEqual(panes.seen("x"), [()])
        self.check(panes, {"x": ()}, [], 0)

    def test_steps_are_tuples(self):
        self.assertEqual([type(step) for step in panes_of("x", ("x", A)).steps()], [tuple])


class BackInTest(PanesTest):
    VISITS = [("x", A), ("y", B), ("x", C), ("z", D), ("y", C)]
    STEPS = [("x", (), A), ("y", (), B), ("x", A, C), ("z", (), D), ("y", B, C)]

    def test_over_steps_of_others(self):
        for name, many in [("x", 3), ("y", 1), ("z", 2)]:
            panes = panes_of("wxyz", *self.VISITS)
            self.assertEqual(panes.back_in(name), many)
            shown = {"w": (), "x": C, "y": B, "z": D if many < 2 else ()}
            shown["x"] = A if many == 3 else C
            self.check(panes, shown, self.STEPS, 5 - many)

    def test_again_and_again(self):
        panes = panes_of("xyz", *self.VISITS)
        self.assertEqual([panes.back_in("y"), panes.back_in("y")], [1, 3])
        self.check(panes, {"x": A, "y": (), "z": ()}, self.STEPS, 1)
        self.assertRaises(NoPlace, panes.back_in, "y")
        self.assertRaises(NoPlace, panes.back_in, "z")
        self.check(panes, {"x": A, "y": (), "z": ()}, self.STEPS, 1)
        self.assertEqual(panes.back_in("x"), 1)
        self.assertRaises(NoPlace, panes.back_in, "x")
        self.check(panes, {"x": (), "y": (), "z": ()}, self.STEPS, 0)

    def test_what_was_undone_is_done_again_step_by_step(self):
        panes = panes_of("xyz", *self.VISITS)
        panes.back_in("x")
        self.assertEqual([panes.forth(), panes.forth(), panes.forth()], ["x", "z", "y"])
        self.check(panes, {"x": C, "y": C, "z": D}, self.STEPS, 5)

    def test_steps_that_are_undone_do_not_count(self):
        panes = panes_of("xyz", *self.VISITS)
        panes.back()
        panes.back()
        self.assertEqual(panes.back_in("y"), 2)
        self.check(panes, {"x": A, "y": (), "z": ()}, self.STEPS, 1)

    def test_a_pane_whose_steps_are_all_undone(self):
        panes = panes_of("xyz", *self.VISITS)
        panes.back()
        panes.back()
        self.assertRaises(NoPlace, panes.back_in, "z")
        self.check(panes, {"x": C, "y": B, "z": ()}, self.STEPS, 3)

    def test_a_pane_without_steps(self):
        panes = panes_of("wxyz", *self.VISITS)
        self.assertRaises(NoPlace, panes.back_in, "w")
        self.check(panes, {"w": (), "x": C, "y": C, "z": D}, self.STEPS, 5)

    def test_no_pane_comes_first(self):
        self.assertRaises(NoPane, Panes().back_in, "x")
        panes = panes_of("x")
        self.assertRaises(NoPane, panes.back_in, "y")
        self.assertRaises(NoPlace, panes.back_in, "x")
        panes = panes_of("xy", ("x", A))
        panes.close("x")
        self.assertRaises(NoPane, panes.back_in, "x")


class CloseTest(PanesTest):
    VISITS = [("x", A), ("y", B), ("x", C), ("z", D), ("y", C), ("x", D), ("z", A)]
    STEPS = [("x", (), A), ("y", (), B), ("x", A, C), ("z", (), D), ("y", B, C), ("x", C, D), ("z", D, A)]

    def undone(self, many):
        panes = panes_of("wxyz", *self.VISITS)
        for turn in range(many):
            panes.back()
        return panes

    def test_among_those_of_others(self):
        for name, undone in itertools.product("wxyz", range(8)):
            panes = self.undone(undone)
            shown = {other: panes.place(other) for other in panes.names() if other != name}
            self.assertEqual(panes.close(name), {"w": 0, "x": 3, "y": 2, "z": 2}[name])
            rest = [step for step in self.STEPS if step[0] != name]
            done = len([step for step in self.STEPS[:7 - undone] if step[0] != name])
            self.check(panes, shown, rest, done)

    def test_back_and_forth_behind_it(self):
        for name, undone in itertools.product("wxyz", range(8)):
            panes = self.undone(undone)
            panes.close(name)
            rest = [step for step in self.STEPS if step[0] != name]
            for done in reversed(range(panes.done())):
                self.assertEqual(panes.back(), rest[done][0])
                self.assertEqual(panes.place(rest[done][0]), rest[done][1])
            self.assertRaises(NoPlace, panes.back)
            self.check(panes, {other: () for other in "wxyz" if other != name}, rest, 0)
            for done, step in enumerate(rest):
                self.assertEqual(panes.forth(), step[0])
                self.assertEqual(panes.place(step[0]), step[2])
                self.assertEqual(panes.done(), done + 1)
            self.assertRaises(NoPlace, panes.forth)

    def test_it_is_no_more(self):
        panes = self.undone(2)
        panes.close("x")
        self.assertEqual(panes.names(), ["w", "y", "z"])
        for deed in (panes.place, panes.back_in, panes.close, panes.seen):
            self.assertRaises(NoPane, deed, "x")
        self.assertRaises(NoPane, panes.visit, "x", A)

    def test_the_last_one(self):
        panes = panes_of("x", ("x", A), ("x", B))
        panes.back()
        self.assertEqual(panes.close("x"), 2)
        self.check(panes, {}, [], 0)
        self.assertRaises(NoPlace, panes.back)
        self.assertRaises(NoPlace, panes.forth)

    def test_added_again(self):
        panes = self.undone(2)
        panes.close("x")
        rest = [step for step in self.STEPS if step[0] != "x"]
        panes.add("x", D)
        self.check(panes, {"w": (), "x": D, "y": C, "z": D}, rest, 3)
        self.assertEqual(panes.seen("x"), [D])
        self.assertRaises(NoPlace, panes.back_in, "x")
        self.assertEqual([panes.back(), panes.back(), panes.back()], ["y", "z", "y"])
        self.assertRaises(NoPlace, panes.back)
        self.check(panes, {"w": (), "x": D, "y": (), "z": ()}, rest, 0)
        panes.visit("x", A)
        self.check(panes, {"w": (), "x": A, "y": (), "z": ()}, [("x", D, A)], 1)
        self.assertEqual(panes.close("x"), 1)

    def test_a_visit_behind_it(self):
        panes = self.undone(3)
        panes.close("y")
        panes.visit("z", C)
        self.check(panes, {"w": (), "x": C, "z": C}, [("x", (), A), ("x", A, C), ("z", (), D), ("z", D, C)], 4)


class SeenTest(PanesTest):
    VISITS = [("x", A), ("y", B), ("x", C), ("x", C), ("y", D), ("x", A)]

    def test_done_or_undone(self):
        for undone in range(7):
            panes = panes_of("wxy", *self.VISITS)
            for turn in range(undone):
                panes.back()
            self.assertEqual(panes.seen("x"), [(), A, C, C, A])
            self.assertEqual(panes.seen("y"), [(), B, D])
            self.assertEqual(panes.seen("w"), [()])
            self.assertEqual(panes.done(), 6 - undone)

    def test_without_steps(self):
        panes = Panes()
        panes.add("x", A)
        self.assertEqual(panes.seen("x"), [A])

    def test_undone_ones_that_are_no_more(self):
        panes = panes_of("xy", ("x", A), ("x", B))
        panes.back()
        panes.back()
        panes.visit("y", C)
        self.assertEqual(panes.seen("x"), [()])
        panes.visit("x", D)
        self.assertEqual(panes.seen("x"), [(), D])


class WholePanesTest(PanesTest):
    """All rows of some deeds, against a model that finds what is shown from the steps that are done."""

    DEEDS = [("visit", "x", A), ("visit", "y", B), ("visit", "y", A), ("back",), ("forth",),
             ("back_in", "x"), ("back_in", "y"), ("close", "x"), ("add", "x", C)]

    def shown(self, starts, steps):
        shown = dict(starts)
        for name, ahead, behind in steps:
            self.assertEqual(shown[name], ahead)
            shown[name] = behind
        return shown

    def model_undo(self, model, name):
        """What back_in tells, and the model behind it."""
        starts, done, undone = model
        if name not in starts:
            return NoPane, model
        spots = [spot for spot, step in enumerate(done) if step[0] == name]
        if not spots:
            return NoPlace, model
        return len(done) - spots[-1], (starts, done[:spots[-1]], done[spots[-1]:] + undone)

    def model_close(self, model, name):
        starts, done, undone = model
        if name not in starts:
            return NoPane, model
        many = len([step for step in done + undone if step[0] == name])
        return many, ({other: starts[other] for other in starts if other != name},
                      [step for step in done if step[0] != name], [step for step in undone if step[0] != name])

    def model_deed(self, model, deed):
        starts, done, undone = model
        if deed[0] == "add":
            return (Taken, model) if deed[1] in starts else (None, ({**starts, deed[1]: deed[2]}, done, undone))
        if deed[0] == "visit":
            if deed[1] not in starts:
                return NoPane, model
            return None, (starts, done + [(deed[1], self.shown(starts, done)[deed[1]], deed[2])], [])
        if deed[0] == "back":
            return (done[-1][0], (starts, done[:-1], done[-1:] + undone)) if done else (NoPlace, model)
        if deed[0] == "forth":
            return (undone[0][0], (starts, done + undone[:1], undone[1:])) if undone else (NoPlace, model)
        return self.model_undo(model, deed[1]) if deed[0] == "back_in" else self.model_close(model, deed[1])

    def run_row(self, deeds):
        panes, model = panes_of("xy"), ({"x": (), "y": ()}, [], [])
        for deed in deeds:
            wanted, model = self.model_deed(model, deed)
            call = getattr(panes, deed[0])
            if wanted in (NoPane, NoPlace, Taken):
                self.assertRaises(wanted, call, *deed[1:])
            else:
                self.assertEqual(call(*deed[1:]), wanted)
            self.check(panes, self.shown(model[0], model[1]), model[1] + model[2], len(model[1]))

    def test_all_rows(self):
        for deeds in itertools.product(self.DEEDS, repeat=4):
            self.run_row(deeds)

    def test_all_rows_behind_some_visits(self):
        visits = (("visit", "x", A), ("visit", "y", B), ("visit", "x", C), ("visit", "y", A), ("back",))
        for deeds in itertools.product(self.DEEDS, repeat=4):
            self.run_row(visits + deeds)


if __name__ == "__main__":
    unittest.main()
