"""Point 39: two plain askings compared over a hoard."""

import copy
import itertools
import unittest

from samples import NONE, REFUSALS, SHAPES, TRUE, Chance, Exact, of

from whencewise.alike import compared
from whencewise.asking import ask
from whencewise.askings import columns_of
from whencewise.errors import NoColumn, NoTable, NotPlain, Unlike
from whencewise.hoards import facts_of, named, shapes_of, stocked, without
from whencewise.kinds import Truth
from whencewise.plans import steps
from whencewise.reasons import Reasons

HOARD = {
    "r": (("a", "b"), (((1, "x"), "e"), ((2, "x"), "f"), ((1, "y"), "g"))),
    "s": (("b", "a"), ((("x", 1), "e"), (("x", 2), "f"), (("y", 1), "h"))),
    "v": (("a",), (((1,), "i"), ((2,), "i"), ((1,), "j"))),
    "w": (("a",), (((1,), "j"), ((2,), "i"), ((1,), "i"))),
    "m": (("a",), ()),
}
R, S, V, W, M = [("table", name) for name in "rsvwm"]
TURNED = ("keep", S, ("a", "b"))


def by_subsets(one, other, hoard):
    """The word and the facts, out of the answers over each of the sets of facts alone."""
    facts = facts_of(hoard)
    subsets = [some for many in range(len(facts) + 1) for some in itertools.combinations(facts, many)]
    alone = {some: without(hoard, [name for name in facts if name not in some]) for some in subsets}

    def rows(asking, some):
        store = stocked(Truth(), alone[some], dict.fromkeys(facts, True))
        return ask(Truth(), asking, store)

    unlike = [some for some in subsets if rows(one, some) != rows(other, some)]
    if unlike:
        return ("none", unlike[0])
    unlike = [some for some in subsets if ask(Reasons(), one, named(alone[some])) != ask(Reasons(), other, named(alone[some]))]
    return ("plain", unlike[0]) if unlike else ("every", ())


class Compared(Exact):
    def told(self, one, other, asked, hoard=HOARD):
        with self.subTest(one=one, other=other):
            self.same(by_subsets(one, other, hoard), asked)
            self.same(compared(one, other, hoard), asked)
            self.same(compared(other, one, hoard), asked)

    def test_every(self):
        self.told(R, R, ("every", ()))
        self.told(V, W, ("every", ()))
        self.told(("join", R, V), ("keep", ("join", V, R), ("a", "b")), ("every", ()))
        self.told(("pick", R, TRUE), R, ("every", ()))
        self.told(("pick", R, ("not", TRUE)), ("pick", TURNED, ("not", TRUE)), ("every", ()))
        self.told(M, ("join", M, V), ("every", ()))
        self.told(("pour", R, TURNED), ("pour", TURNED, R), ("every", ()))

    def test_plain(self):
        self.told(R, ("pour", R, R), ("plain", ("e",)))
        self.told(R, ("join", R, R), ("plain", ("e",)))
        self.told(("pour", R, R), ("join", R, R), ("plain", ("e",)))
        self.told(("keep", R, ("a",)), ("keep", ("join", R, ("keep", R, ("a",))), ("a",)), ("plain", ("e",)))
        self.told(V, ("pour", V, ("pick", W, ("same", of("a"), ("just", 2)))), ("plain", ("i",)))
        picked = ("pick", V, ("same", of("a"), ("just", 1)))
        self.told(("join", picked, V), ("join", picked, picked), ("every", ()))
        # Other times, and a term that goes beside lesser ones.
        self.told(("total", V, "a", ("a",)), V, ("plain", ("i",)))
        crossed = ("join", ("keep", V, ()), ("keep", V, ()))
        self.told(("pour", crossed, ("keep", V, ())), ("pour", ("keep", V, ()), ("keep", ("join", V, V), ())), ("plain", ("i",)))

    def test_plain_with_several_facts(self):
        hoard = {"r": ((), (((), "e"), ((), "f"), ((), "g"))), "p": ((), (((), "f"),)), "q": ((), (((), "e"),)), "o": ((), (((), "g"),))}
        all_of, p, q, o = [("table", name) for name in "rpqo"]
        # e + f + g beside the same with e*f too: the fewest are the two of that term.
        self.told(all_of, ("pour", all_of, ("join", p, q)), ("plain", ("e", "f")), hoard)
        self.told(all_of, ("pour", all_of, ("join", o, p)), ("plain", ("f", "g")), hoard)
        self.told(all_of, ("pour", all_of, ("join", ("join", o, p), q)), ("plain", ("e", "f", "g")), hoard)
        self.told(("pour", all_of, ("join", q, o)), ("pour", all_of, ("join", p, q)), ("plain", ("e", "f")), hoard)
        self.told(("pour", all_of, ("join", ("join", o, p), q)), ("pour", all_of, ("join", o, o)), ("plain", ("g",)), hoard)

    def test_none(self):
        self.told(R, TURNED, ("none", ("g",)))
        self.told(V, M, ("none", ("i",)))
        self.told(V, ("pick", V, ("same", of("a"), ("just", 1))), ("none", ("i",)))
        self.told(V, ("pick", V, ("same", of("a"), ("just", 2))), ("none", ("i",)))
        picked = ("pick", R, ("same", of("a"), ("just", 2)))
        self.told(R, picked, ("none", ("e",)))
        self.told(("keep", R, ("a",)), ("keep", ("join", R, V), ("a",)), ("none", ("e",)))
        self.told(("keep", ("join", R, V), ("b",)), ("keep", R, ("b",)), ("none", ("e",)))

    def test_none_with_several_facts(self):
        hoard = {"r": ((), (((), "e"),)), "p": ((), (((), "f"),)), "q": ((), (((), "g"), ((), "h"))), "m": ((), ())}
        e, f, gh, m = [("table", name) for name in "rpqm"]
        both = ("join", f, gh)
        self.told(both, m, ("none", ("f", "g")), hoard)
        self.told(("pour", both, e), e, ("none", ("f", "g")), hoard)
        self.told(both, ("join", f, ("join", gh, e)), ("none", ("f", "g")), hoard)
        self.told(("join", e, both), m, ("none", ("e", "f", "g")), hoard)
        # Fewer facts go ahead of those sorted first.
        self.told(("pour", ("join", e, both), gh), m, ("none", ("g",)), hoard)
        # A set within which one of the other's lies shows nothing.
        self.told(("pour", e, ("join", e, f)), ("pour", e, both), ("none", ("f", "g")), hoard)

    def test_names_sorted_as_texts(self):
        hoard = {"r": (("a",), (((1,), "f9"), ((2,), "f10"))), "m": (("a",), ())}
        self.told(("table", "r"), M, ("none", ("f10",)), hoard)
        self.told(("table", "r"), ("join", ("table", "r"), ("table", "r")), ("plain", ("f10",)), hoard)

    def test_a_row_that_just_one_has(self):
        hoard = {"r": (("a",), (((1,), "e"), ((2,), "f"))), "s": (("a",), (((2,), "f"), ((3,), "d")))}
        self.told(("table", "r"), ("table", "s"), ("none", ("d",)), hoard)
        # The other way about, and the same facts at other rows.
        turned = {"r": (("a",), (((1,), "e"),)), "s": (("a",), (((2,), "e"),))}
        self.told(("table", "r"), ("table", "s"), ("none", ("e",)), turned)

    def test_no_facts(self):
        hoard = {"r": (("a",), ()), "s": (("a",), ())}
        self.told(("table", "r"), ("table", "s"), ("every", ()), hoard)

    def test_by_seeds(self):
        words = []
        for seed in range(250):
            chance = Chance(seed)
            hoard, one = chance.hoard(), chance.asking(2, plain=True)
            columns = columns_of(one, chance.shapes)
            other = [
                chance.fitting("pour", chance.asking(2, plain=True), columns), ("pour", one, one), ("join", one, one), ("pick", one, chance.test(columns, 1)),
                ("join", one, ("keep", one, columns[:1])), ("pour", one, ("join", one, ("table", "n"))), ("pour", one, chance.grown(one, columns)),
            ][seed % 7]
            with self.subTest(seed=seed, one=one, other=other):
                asked = by_subsets(one, other, hoard)
                self.same(compared(one, other, hoard), asked)
                self.same(compared(other, one, hoard), asked)
                words.append(asked[0])
        for word in ["every", "plain", "none"]:
            self.assertGreater(words.count(word), 20)

    def test_steps_keep_every_note(self):
        for seed in range(60):
            chance = Chance(seed)
            hoard, asking = chance.hoard(), chance.asking(3, plain=True)
            asking = ("pick", asking, chance.test(columns_of(asking, chance.shapes), 3))
            for one in steps(asking, shapes_of(hoard)):
                self.same(compared(asking, one, hoard), ("every", ()))

    def test_twelve_facts(self):
        names = [f"f{at}" for at in range(12)]
        hoard = {"r": (("a",), tuple(((at,), name) for at, name in enumerate(names)))}
        some = ("keep", ("table", "r"), ())
        four = ("join", ("join", some, some), ("join", some, some))
        self.same(compared(four, some, hoard), ("plain", ("f0",)))
        self.same(compared(four, four, hoard), ("every", ()))

    def test_nothing_is_changed(self):
        hoard = copy.deepcopy(HOARD)
        compared(R, TURNED, hoard)
        self.same(hoard, HOARD)


class Refused(Exact):
    def test_not_plain_ahead_of_all_else(self):
        leave = ("leave", R, R)
        for other in [R, leave, NONE, ("keep", R, ("a", "a")), V]:
            self.refuses(NotPlain, compared, leave, other, HOARD)
            self.refuses(NotPlain, compared, other, leave, HOARD)
            self.refuses(NotPlain, compared, other, ("keep", ("join", R, leave), ("z",)), HOARD)

    def test_the_one_ahead_of_the_other(self):
        hoard = {name: (columns, ()) for name, columns in SHAPES.items()}
        plainly = [(error, asking) for error, asking in REFUSALS if "leave" not in str(asking)]
        for error, asking in plainly:
            self.refuses(error, compared, asking, ("table", "w"), hoard)
            self.refuses(error, compared, ("table", "w"), asking, hoard)
            for other, beside in plainly:
                self.refuses(error, compared, asking, beside, hoard)
        self.refuses(NoTable, compared, NONE, ("keep", R, ("z",)), HOARD)
        self.refuses(NoColumn, compared, ("keep", R, ("z",)), NONE, HOARD)

    def test_unlike(self):
        for one, other in [(R, V), (V, R), (R, S), (R, ("call", R, ("a", "c"))), (R, ("keep", R, ())), (R, ("keep", R, ("b", "a"))), (M, ("keep", M, ()))]:
            self.refuses(Unlike, compared, one, other, HOARD)


if __name__ == "__main__":
    unittest.main()
