"""Points 0.2, 6.4, 6.5 and 6.6: which papers for claims are taken."""

import itertools
import unittest

from anytext.claims.claim import Claim, breaks
from anytext.claims.decide import decide
from anytext.claims.judge import judge
from anytext.errors import BadMachine, TooMany, UnknownName, WrongCount
from anytext.machines.build import machine_of
from anytext.machines.combine import between, both, opposite
from anytext.machines.lots import reversal
from anytext.machines.machine import Machine
from anytext.machines.search import first_text, is_empty, outside, useful
from anytext.patterns.reader import read_pattern
from anytext.programs.book import Book
from anytext.programs.program import Program
from anytext.programs.reader import read_program
from anytext.rewriters.images import before_image, domain
from anytext.rewriters.recipes import read_recipe
from helpers import doubled, random_machine, random_program, reason, renumbered, seeded

NOTATIONS = {"some": "a*", "long": "..+", "nothing": "[]", "all": ".*", "pairs": "(ab)*", "noaa": "!(.*aa.*)",
             "even": "(..)*", "odd": ".(..)*", "endb": ".*b", "hasb": ".*b.*"}
RECIPES = {"more": "letters a>aa", "few": "only !(.*bb.*)", "swap": "letters a>b b>a", "tail": "after ba"}
BOOK = Book("ab", {name: read_pattern("ab", NOTATIONS[name]) for name in NOTATIONS},
            {name: read_recipe("ab", RECIPES[name]) for name in RECIPES})
ALL = Machine("ab", [True], [[0, 0]])


def triple(name, notation):
    """A triple of the least machine of a pattern."""
    return (name,) + machine_of("ab", read_pattern("ab", notation)).picture()[1:]


def demand(**notations):
    """A demand, of a pattern for each name."""
    return tuple(triple(name, notations[name]) for name in sorted(notations))


# Point 6.5, word by word, and slow.

def plain_judge(book, program, claim, paper):
    if len(paper) != len(program.lines) + 1:
        return False
    places, known = [], list(program.inputs)
    for index, place in enumerate(paper):
        if index > 0 and program.lines[index - 1][0] != "need":
            known.append(program.lines[index - 1][1])
        places.append([])
        for triples in place:
            names = [part[0] for part in triples]
            if len(set(names)) < len(names) or not set(names) <= set(known):
                return False
            try:
                places[-1].append({name: Machine(book.letters, accepting, table) for name, accepting, table in triples})
            except BadMachine:
                return False
    asked = [[] for _ in paper]
    asked[-1].append({program.result: opposite(book.machine(claim.output))})
    for index, line in enumerate(program.lines):
        for behind in places[index + 1]:
            asked[index].extend(plainly_led_back(book, line, behind))
        if not claim.refusals and line[0] == "need":
            asked[index].append({line[1]: opposite(book.machine(line[2]))})
        if not claim.refusals and line[0] == "rewrite":
            asked[index].append({line[3]: opposite(domain(book.rewriter(line[2])))})
    for there, wanted in zip(places, asked):
        for one in wanted:
            if not any(is_empty(machine) for machine in one.values()):
                if not any(plainly_covers(other, one) for other in there):
                    return False
    return all(any(is_empty(both(book.machine(pattern), one.get(name, ALL)))
                   for name, pattern in zip(program.inputs, claim.inputs)) for one in places[0])


def plainly_covers(first, second):
    return all(outside(second.get(name, ALL), first[name]) is None for name in first)


def added(one, name, machine):
    return {**one, name: both(one[name], machine) if name in one else machine}


def plainly_led_back(book, line, behind):
    kind = line[0]
    if kind == "need":
        return [added(behind, line[1], book.machine(line[2]))]
    wanted = behind.get(line[1], None)
    rest = {name: behind[name] for name in behind if name != line[1]}
    if kind == "rewrite":
        rewriter = book.rewriter(line[2])
        return [added(rest, line[3], domain(rewriter) if wanted is None else before_image(rewriter, wanted))]
    if wanted is None:
        return [rest]
    if kind == "turn":
        return [added(rest, line[2], reversal(wanted))]
    if kind == "choose":
        pattern = book.machine(line[3])
        return [added(added(rest, line[2], pattern), line[4], wanted),
                added(added(rest, line[2], opposite(pattern)), line[5], wanted)]
    many = len([part for part in line[2] if part[0] == "name"])
    found = []
    for choice in itertools.product(useful(wanted), repeat=max(0, many - 1)):
        found.extend(plainly_chosen(line[2], rest, wanted, list(choice)))
    return found


def plainly_chosen(parts, rest, wanted, choice):
    """The demand of one choice of states behind all names but the last one, in a list, or none."""
    state, one = 0, rest
    for index, (kind, part) in enumerate(parts):
        if kind == "text":
            state = wanted.run_from(state, part)
        elif choice:
            goal = choice.pop(0)
            one, state = added(one, part, between(wanted, state, [goal])), goal
        else:
            behind = "".join(text for _, text in parts[index + 1:])
            goals = [goal for goal in range(len(wanted.table)) if wanted.accepting[wanted.run_from(goal, behind)]]
            return [added(one, part, between(wanted, state, goals))]
    return [one] if wanted.accepting[state] else []


class JudgeTest(unittest.TestCase):
    def judged(self, notation, claim, paper, wanted):
        program = read_program(notation) if isinstance(notation, str) else notation
        self.assertIs(judge(BOOK, program, claim, paper), wanted)
        self.assertIs(plain_judge(BOOK, program, claim, paper), wanted)

    def taken(self, notation, claim, *paper):
        self.judged(notation, claim, paper, True)

    def refused(self, notation, claim, *paper):
        self.judged(notation, claim, paper, False)


class RulesTest(JudgeTest):
    def test_the_number_of_places(self):
        claim = Claim(["even"], "even")
        self.taken("x: give x", claim, (demand(x=".(..)*"),))
        paper = ((demand(x=".(..)*"),), (demand(y=".(..)*"),))
        self.taken("x: y = turn x; give y", claim, *paper)
        self.refused("x: y = turn x; give y", claim, *paper[:1])
        self.refused("x: y = turn x; give y", claim, *paper[1:])
        self.refused("x: y = turn x; give y", claim, *paper, ())
        self.refused("x: y = turn x; give y", claim, (), *paper)
        self.refused("x: y = turn x; give y", claim)
        self.refused("x: give x", claim, *paper)
        # Also where nothing is asked.
        self.taken("x: y = turn x; give y", Claim(["all"], "all"), (), ())
        self.refused("x: y = turn x; give y", Claim(["all"], "all"), ())
        self.refused("x: y = turn x; give y", Claim(["all"], "all"), (), (), ())

    def test_names_without_a_text(self):
        claim = Claim(["nothing"], "even")
        end = (demand(y=".(..)*"),)
        self.taken("x: y = turn x; give y", claim, (demand(x=".(..)*"),), end)
        for more in (demand(y="a"), demand(z="a"), demand(y="[]"), demand(y=".*"), (triple("", "a"),), (triple("X", "a"),)):
            self.refused("x: y = turn x; give y", claim, (demand(x=".(..)*"), more), end)
        self.refused("x: y = turn x; give y", claim, (demand(x=".(..)*"),), end + (demand(z="[]"),))
        self.refused("x: y = turn x; z = turn x; give y", claim, (demand(x=".(..)*"),), end + (demand(z="[]"),), end)
        self.taken("x: y = turn x; z = turn x; give y", claim, (demand(x=".(..)*"),), end, end + (demand(z="[]"),))

    def test_names_twice_in_a_demand(self):
        claim = Claim(["nothing"], "nothing")
        self.taken("x: give x", claim, (demand(x=".*"),))
        self.refused("x: give x", claim, (demand(x=".*") + demand(x=".*"),))
        self.refused("x: give x", claim, (demand(x=".*"), demand(x="a") + demand(x=".*")))
        self.taken("x: give x", claim, (demand(x=".*"), demand(x="a")))

    def test_tables_that_are_none(self):
        claim = Claim(["nothing"], "nothing")
        everything = demand(x=".*")
        for accepting, table in (((), ()), ((True,), ()), ((), ((0, 0),)), ((True,), ((0,),)), ((True,), ((0, 0, 0),)),
                                 ((True,), ((),)), ((True,), ((0, 1),)), ((True,), ((-1, 0),)), ((True,), ((0, 0), (0, 0))),
                                 ((True, False), ((0, 0),)), ((True, False), ((0, 1), (2, 0))), ((True,), ((999999999, 0),))):
            self.refused("x: give x", claim, (everything, (("x", accepting, table),)))
            self.refused("x: give x", claim, ((("x", accepting, table),),))
        self.taken("x: give x", claim, (everything, (("x", (True, False), ((0, 1), (1, 0))),)))

    def test_the_end(self):
        claim = Claim(["even"], "even")
        self.taken("x: give x", claim, (demand(x=".(..)*"),))
        self.refused("x: give x", claim, ())
        self.refused("x: give x", claim, (demand(x=".(....)*"),))
        self.refused("x, y: give x", Claim(["even", "all"], "even"), (demand(x=".(..)*", y="a*"),))
        # A single one must cover it, not two together.
        self.refused("x: give x", claim, (demand(x=".(....)*"), demand(x="...(....)*")))
        self.taken("x: give x", Claim(["nothing"], "even"), (demand(x=".+"),))
        self.taken("x: give x", Claim(["nothing"], "even"), ((),))
        self.refused("x, y: give x", Claim(["even", "all"], "even"), (demand(y=".(..)*"),))
        # There is no text that does not belong to the output.
        self.taken("x: give x", Claim(["all"], "all"), ())
        self.refused("x: give x", Claim(["all"], "nothing"), ())
        self.taken("x: give x", Claim(["nothing"], "nothing"), ((),))

    def test_the_beginning(self):
        claim = Claim(["even", "some"], "even")
        self.taken("x, y: give x", claim, (demand(x=".(..)*"),))
        self.taken("x, y: give x", claim, (demand(x=".(..)*"), demand(y=".*b.*")))
        self.taken("x, y: give x", claim, (demand(x=".(..)*"), demand(x="..", y="b")))
        # There are inputs that meet these.
        for more in ((), demand(x=".*"), demand(y="a"), demand(x="..", y="a"), demand(x="()")):
            self.refused("x, y: give x", claim, (demand(x=".(..)*"), more))
        # No text is one of an input without a demand only if its pattern has none.
        nothing = Claim(["nothing", "some"], "even")
        for more in ((), demand(x=".*"), demand(y="a"), demand(x="..", y="a"), demand(x="()")):
            self.taken("x, y: give x", nothing, (demand(x=".(..)*"), more))
        # Lines may have names that no demand in front of them knows.
        self.taken("x: y = x x; give y", Claim(["nothing"], "odd"), ((),), (demand(y="(..)*"),))

    def test_demands_in_front_of_a_line(self):
        claim = Claim(["even"], "even")
        end = (demand(y=".(..)*"),)
        self.refused("x: y = turn x; give y", claim, (), end)
        self.refused("x: y = turn x; give y", claim, (demand(x=".(....)*"),), end)
        self.refused("x: y = turn x; give y", claim, (demand(x=".(....)*"), demand(x="...(....)*")), end)
        self.taken("x: y = turn x; give y", claim, (demand(x=".(....)*"), demand(x=".(....)*|...(....)*")), end)
        # Each demand behind the line counts, needed or not.
        self.taken("x: y = turn x; give y", claim, (demand(x=".(..)*"), demand(x="aba|b")), end + (demand(y="a.a|b"),))
        self.refused("x: y = turn x; give y", claim, (demand(x=".(..)*"),), end + (demand(y="ab"),))
        self.refused("x: y = turn x; give y", claim, (demand(x=".(..)*"), demand(x="ab")), end + (demand(y="ab"),))
        self.refused("x: y = turn x; give y", claim, (demand(x=".(..)*"), demand(x="ba")), end + (demand(y="ab"),))
        self.taken("x: y = turn x; give y", Claim(["some"], "some"), (demand(x=".*b.*"), demand(x="ba")),
                   (demand(y=".*b.*"), demand(y="ab")))

    def test_demands_that_no_text_meets(self):
        claim = Claim(["even", "all"], "even")
        end = (demand(z=".(..)*"),)
        for notation in ("x, y: z = turn x; give z", "x, y: z = x; give z"):
            self.taken(notation, claim, (demand(x=".(..)*"),), end + (demand(y="[]"), demand(z="[]"), demand(y=".*", z="[]")))
            self.taken(notation, claim, (demand(x=".(..)*"), demand(y="[]")), end + (demand(y="[]"),))
            # This one has a machine without texts only behind the line.
            self.taken(notation, claim, (demand(x=".(..)*"),), end + (demand(x="a", z="bb"),))
        self.refused("x, y: z = x; give z", claim, (demand(x=".(..)*"),), end + (demand(x="bb", z="bb"),))

    def test_covering(self):
        program, claim = "x, y: z = x; give z", Claim(["nothing", "nothing"], "all")
        # Leading this back gives x the texts "a" and "aa".
        end = (demand(x="a*", y="(ab)*", z="b|a|aa"),)
        self.refused(program, claim, (), end)
        for cover in ((), demand(x="a|aa"), demand(x="a*"), demand(y=".*"), demand(x="a+", y="(ab)*"), demand(y="(ab|b)*"),
                      demand(x=".*", y=".*")):
            self.taken(program, claim, (cover,), end)
        for cover in (demand(x="a"), demand(x="b"), demand(x="a", y=".*"), demand(y="(abab)*"), demand(x="a*", y="(ab)+"),
                      demand(x=".*", y="b"), demand(x="[]")):
            self.refused(program, claim, (cover,), end)
        self.refused(program, claim, (demand(x="a"), demand(x="aa")), end)
        self.taken(program, claim, (demand(x="a"), demand(x="a|aa")), end)
        # A name without a machine in the covered demand may have any text.
        end = (demand(z="a"),)
        self.refused(program, claim, (demand(y="(ab)*"),), end)
        self.refused(program, claim, (demand(x="a", y=".+"),), end)
        self.taken(program, claim, (demand(y=".*"),), end)
        self.taken(program, claim, (demand(x="a", y="[^a]*|.*a.*"),), end)


class LinesTest(JudgeTest):
    def leads_back(self, line, behind, *front, refusals=True):
        """Exactly these demands come of leading one back over the line: with each left out the paper is refused."""
        program = Program(["x", "y"], [line, ("join", "r", (("name", "x"),))], "r")
        claim = Claim(["nothing", "all"], "all", refusals)
        self.taken(program, claim, front, (behind,), ())
        for index in range(len(front)):
            self.refused(program, claim, front[:index] + front[index + 1:], (behind,), ())
            for name, accepting, table in front[index]:
                # Only these texts are asked for: without the least one of them no demand covers it.
                machine = Machine("ab", accepting, table)
                text = first_text(machine)
                if text is not None:
                    less = both(machine, opposite(machine_of("ab", read_pattern("ab", text))))
                    rest = tuple(part for part in front[index] if part[0] != name) + ((name,) + less.picture()[1:],)
                    self.refused(program, claim, front[:index] + (rest,) + front[index + 1:], (behind,), ())

    def test_need(self):
        self.leads_back(("need", "x", "some"), demand(y="b*"), demand(x="a*", y="b*"))
        self.leads_back(("need", "x", "some"), demand(x="a|b|aa"), demand(x="a|aa"))
        self.leads_back(("need", "x", "some"), (), demand(x="a*"))
        self.leads_back(("need", "x", "some"), demand(x=".*"), demand(x="a*"))
        self.leads_back(("need", "x", "some"), demand(x="b"))

    def test_rewrite(self):
        self.leads_back(("rewrite", "z", "more", "x"), demand(z="a*b"), demand(x="a*b"))
        self.leads_back(("rewrite", "z", "more", "x"), demand(z="a?b"), demand(x="b"))
        self.leads_back(("rewrite", "z", "few", "x"), demand(z=".*b"), demand(x=".*b&!(.*bb.*)"))
        # Without a machine, and with one that accepts all texts.
        self.leads_back(("rewrite", "z", "few", "x"), (), demand(x="!(.*bb.*)"))
        self.leads_back(("rewrite", "z", "few", "x"), demand(z=".*"), demand(x="!(.*bb.*)"))
        self.leads_back(("rewrite", "z", "few", "x"), demand(x="b*", y="a"), demand(x="b?", y="a"))
        self.leads_back(("rewrite", "z", "few", "x"), demand(x="a*", z=".*b"))

    def test_turn(self):
        self.leads_back(("turn", "z", "x"), demand(z="a*b"), demand(x="ba*"))
        self.leads_back(("turn", "z", "x"), demand(z="a*b", x="(a|b)b*"), demand(x="b"))
        self.leads_back(("turn", "z", "x"), demand(y="a"), demand(y="a"))
        self.leads_back(("turn", "z", "x"), (), ())
        self.leads_back(("turn", "z", "x"), demand(z=".*"), ())

    def test_choose(self):
        choose = ("choose", "z", "x", "some", "y", "x")
        self.leads_back(choose, demand(z="ab*"), demand(x="a*", y="ab*"), demand(x="ab+"))
        self.leads_back(choose, demand(z="ab*", y="b"), demand(x="ab+", y="b"))
        self.leads_back(choose, demand(z="ab*", x="a|ab"), demand(x="a", y="ab*"), demand(x="ab"))
        self.leads_back(choose, (), ())
        self.leads_back(choose, demand(y="a"), demand(y="a"))
        # With a machine that accepts all texts two demands come, which are covered alone, too.
        self.leads_back(choose, demand(z=".*"), demand(x="a*"), demand(x=".*b.*"))
        self.leads_back(("choose", "z", "x", "some", "x", "x"), demand(z="b?"), demand(x="()"), demand(x="b"))
        self.leads_back(("choose", "z", "x", "all", "y", "x"), demand(z="b?"), demand(y="b?"))
        self.leads_back(("choose", "z", "x", "nothing", "y", "x"), demand(z="b?"), demand(x="b?"))

    def join(self, *parts):
        return ("join", "z", tuple(("text", part[1:]) if part[0] == "'" else ("name", part) for part in parts))

    def test_join(self):
        self.leads_back(self.join("x"), demand(z="a*b"), demand(x="a*b"))
        self.leads_back(self.join("x", "y"), demand(z="ab"), demand(x="()", y="ab"), demand(x="a", y="b"), demand(x="ab", y="()"))
        self.leads_back(self.join("y", "'b", "x"), demand(z="ab"), demand(x="()", y="a"))
        self.leads_back(self.join("'a", "y", "'", "x"), demand(z="abb*"), demand(y="()", x="b+"), demand(y="b+", x="b*"))
        self.leads_back(self.join("x", "y"), demand(z="a*b", y="b*"), demand(x="a*", y="b"), demand(x="a*b", y="()"))
        self.leads_back(self.join("x", "y"), demand(y="b*"), demand(y="b*"))
        self.leads_back(self.join("x", "y"), (), ())
        self.leads_back(self.join("x", "y", "x"), demand(z=".*"), ())

    def test_joins_of_names_that_are_the_same(self):
        self.leads_back(self.join("x", "x"), demand(z="(ab)*"), demand(x="(ab)*"))
        self.leads_back(self.join("x", "x"), demand(z="aa|abab"), demand(x="a"), demand(x="ab"))
        self.leads_back(self.join("x", "x", "x"), demand(z="(..)*"), demand(x="(..)*"))
        self.leads_back(self.join("x", "y", "x"), demand(z="aba"), demand(x="a", y="b"), demand(x="()", y="aba"))
        self.leads_back(self.join("x", "x"), demand(z="ab"))
        self.leads_back(self.join("x", "'b", "x"), demand(z="aba|b", x="a+"), demand(x="a"))

    def test_joins_of_texts_alone(self):
        self.leads_back(self.join("'ab"), demand(z="(ab)*", y="b"), demand(y="b"))
        self.leads_back(self.join("'a", "'", "'b"), demand(z="(ab)*"), ())
        self.leads_back(self.join("'ab", "'a"), demand(z="(ab)*", y="b"))
        self.leads_back(self.join("'ab", "'a"), demand(y="b"), demand(y="b"))
        self.leads_back(self.join("'"), demand(z="(ab)*"), ())
        self.leads_back(self.join("'"), demand(z="(ab)+"))

    def test_texts_behind_the_last_name(self):
        self.leads_back(self.join("x", "'b"), demand(z="a*b"), demand(x="a*"))
        self.leads_back(self.join("x", "'a", "'b"), demand(z="a*b"), demand(x="a*"))
        self.leads_back(self.join("'a", "x", "'bb"), demand(z="a*b*"), demand(x="a*b*"))
        self.leads_back(self.join("x", "y", "'b"), demand(z="ab"), demand(x="a", y="()"), demand(x="()", y="a"))
        self.leads_back(self.join("x", "'a"), demand(z="a*b"))

    def test_refusing_not_let(self):
        program = "x, y: need x in some; give y"
        paper = ((demand(x=".*b.*"),), ())
        self.taken(program, Claim(["some", "all"], "all", False), *paper)
        self.refused(program, Claim(["all", "all"], "all", False), *paper)
        self.refused(program, Claim(["some", "all"], "all", False), (), ())
        self.refused(program, Claim(["some", "all"], "all", False), (demand(x="b.*"), demand(x="a.*b.*")), ())
        self.refused(program, Claim(["some", "all"], "all", False), (demand(x=".*b.*", y="a"),), ())
        self.taken(program, Claim(["some", "all"], "all"), (), ())
        program = "x, y: z = rewrite few x; give y"
        self.taken(program, Claim(["some", "all"], "all", False), (demand(x=".*bb.*"),), ())
        self.refused(program, Claim(["some", "all"], "all", False), (demand(x=".*bb"),), ())
        self.refused(program, Claim(["some", "all"], "all", False), (), ())
        self.refused(program, Claim(["hasb", "all"], "all", False), (demand(x=".*bb.*"),), ())
        self.taken(program, Claim(["hasb", "all"], "all"), (), ())
        # Lines that refuse no text ask for nothing.
        self.taken("x: y = rewrite more x; need y in all; give y", Claim(["all"], "all", False), (), (), ())
        self.taken("x: y = turn x; z = x y; give z", Claim(["all"], "all", False), (), (), ())

    def test_machines_that_are_not_least(self):
        rng = seeded(170)
        for behind, front in ((demand(z="ab"), (demand(x="()", y="ab"), demand(x="a", y="b"), demand(x="ab", y="()"))),
                              (demand(z="a*b*"), (demand(x="a*", y="a*b*"), demand(x="a*b*", y="b*")))):
            program = Program(["x", "y"], [("join", "z", (("name", "x"), ("name", "y"))), ("join", "r", (("name", "x"),))], "r")
            claim = Claim(["nothing", "all"], "all")
            for change in (doubled, lambda machine: renumbered(rng, machine), lambda machine: renumbered(rng, doubled(machine))):
                larger = tuple((name,) + change(Machine("ab", accepting, table)).picture()[1:] for name, accepting, table in behind)
                some = tuple(tuple((name,) + change(Machine("ab", accepting, table)).picture()[1:]
                                   for name, accepting, table in one) for one in front)
                for papers in ((front, (larger,), ()), (some, (larger,), ()), (some, (behind,), ())):
                    self.taken(program, claim, *papers)
                self.refused(program, claim, some[:-1], (larger,), ())
        # The choice goes by the states as they are written: here the texts before the middle are cut in two lots,
        # so two demands come, which the two in front cover, and not one that neither covers alone.
        program = Program(["x", "y"], [("join", "z", (("name", "x"), ("name", "y"))), ("join", "r", (("name", "x"),))], "r")
        twice = (("z", (True, True), ((1, 1), (0, 0))),)
        front = (demand(x="(..)*"), demand(x=".(..)*"))
        self.taken(program, Claim(["nothing", "all"], "all"), front, (twice,), ())
        self.refused(program, Claim(["nothing", "all"], "all"), front, (demand(z=".*"),), ())

    def test_states_that_are_not_useful(self):
        # From state 1 no text is accepted, and no text leads to state 2: no demand comes of choosing them.
        program = Program(["x", "y"], [("join", "z", (("name", "x"), ("name", "y"))), ("join", "r", (("name", "x"),))], "r")
        written = (("z", (True, False, True), ((1, 0), (1, 1), (2, 2))),)
        self.taken(program, Claim(["nothing", "all"], "all"), (demand(x="b*", y="b*"),), (written,), ())
        self.refused(program, Claim(["nothing", "all"], "all"), (), (written,), ())


class PapersTest(JudgeTest):
    def random_case(self, rng, most=4):
        program = random_program(rng, rng.randint(0, most), NOTATIONS, RECIPES, 2)
        names = [rng.choice(sorted(NOTATIONS)) for _ in program.inputs]
        return program, Claim(names, rng.choice(sorted(NOTATIONS)), rng.random() < 0.7)

    def changed(self, rng, program, paper):
        """The paper with one thing changed."""
        places = [list(place) for place in paper]
        place = rng.choice(places)
        name = rng.choice(program.inputs + tuple(line[1] for line in program.lines))
        what = rng.choice(("drop", "add", "flip", "goal", "less", "more", "name"))
        if what == "add" or not place:
            place.append(((name,) + random_machine(rng, "ab", 2).picture()[1:],))
            return tuple(tuple(place) for place in places)
        index = rng.randrange(len(place))
        triples = [list(part) for part in place[index]]
        if what == "drop":
            del place[index]
            return tuple(tuple(place) for place in places)
        if triples:
            part = rng.choice(triples)
            state = rng.randrange(len(part[1]))
            if what == "flip":
                part[1] = part[1][:state] + (not part[1][state],) + part[1][state + 1:]
            elif what == "goal":
                row = (rng.randrange(len(part[1])), part[2][state][1])
                part[2] = part[2][:state] + (row,) + part[2][state + 1:]
            elif what == "less":
                triples.remove(part)
            elif what == "name":
                part[0] = name
        if what == "more" and name not in [part[0] for part in triples]:
            triples.append((name,) + random_machine(rng, "ab", 2).picture()[1:])
        place[index] = tuple(tuple(part) for part in triples)
        return tuple(tuple(place) for place in places)

    def test_papers_that_decide_gives(self):
        rng = seeded(171)
        many = 0
        while many < 80:
            program, claim = self.random_case(rng)
            word, paper = decide(BOOK, program, claim)
            if word == "holds":
                many += 1
                self.taken(program, claim, *paper)
                self.taken(program, claim, *[place[::-1] for place in paper])
                self.taken(program, claim, *[place + place for place in paper])
                self.taken(program, claim, *[tuple(one[::-1] for one in place) for place in paper])
                lost = (triple(program.inputs[0], "[]"),)
                self.taken(program, claim, *[place + (lost,) for place in paper])

    def test_a_claim_that_follows(self):
        program = read_program("x: y = x x; need y in long; give y")
        paper = decide(BOOK, program, Claim(["all"], "even"))[1]
        for name in ("all", "some", "nothing", "long", "odd"):
            self.taken(program, Claim([name], "even"), *paper)
            self.taken(program, Claim([name], "all"), *paper)
        self.refused(program, Claim(["all"], "even", False), *paper)
        self.refused(program, Claim(["all"], "some"), *paper)
        self.refused(program, Claim(["all"], "odd"), *paper)
        program = read_program("x: y = x 'a'; give y")
        paper = decide(BOOK, program, Claim(["some"], "some"))[1]
        self.taken(program, Claim(["nothing"], "some", False), *paper)
        self.refused(program, Claim(["all"], "some"), *paper)

    def test_changed_papers(self):
        rng = seeded(172)
        told = {True: 0, False: 0}
        for _ in range(250):
            program, claim = self.random_case(rng)
            word, paper = decide(BOOK, program, claim)
            if word == "broken":
                paper = decide(BOOK, program, Claim(["nothing"] * len(program.inputs), claim.output, claim.refusals))[1]
            for _ in range(4):
                paper = self.changed(rng, program, paper)
                taken = judge(BOOK, program, claim, paper)
                self.judged(program, claim, paper, plain_judge(BOOK, program, claim, paper))
                told[taken] += 1
                if word == "broken":
                    self.assertFalse(taken)
        self.assertGreater(min(told.values()), 50)

    def test_papers_for_claims_that_some_inputs_break(self):
        rng = seeded(173)
        many = 0
        while many < 100:
            program, claim = self.random_case(rng)
            word, inputs = decide(BOOK, program, claim)
            if word == "holds":
                continue
            many += 1
            self.assertTrue(breaks(BOOK, program, claim, inputs))
            self.refused(program, claim, *[()] * (len(program.lines) + 1))
            for other in (Claim(["nothing"] * len(claim.inputs), claim.output, claim.refusals),
                          Claim(claim.inputs, "all", True), Claim(claim.inputs, "all", False)):
                word, paper = decide(BOOK, program, other)
                if word == "holds":
                    self.taken(program, other, *paper)
                    self.refused(program, claim, *paper)
                    self.refused(program, claim, *[place + ((),) for place in paper])

    def test_papers_of_other_programs(self):
        rng = seeded(174)
        papers = []
        while len(papers) < 15:
            program, claim = self.random_case(rng, 2)
            word, paper = decide(BOOK, program, claim)
            if word == "holds" and len(program.lines) > 0:
                papers.append(paper)
        for _ in range(40):
            program, claim = self.random_case(rng, 2)
            holds = decide(BOOK, program, claim)[0] == "holds"
            for paper in papers:
                taken = plain_judge(BOOK, program, claim, paper)
                self.judged(program, claim, paper, taken)
                self.assertTrue(holds or not taken)

    def test_what_is_passed_stays_as_it_was(self):
        program, claim = read_program("x: y = x x; give y"), Claim(["all"], "even")
        paper = decide(BOOK, program, claim)[1]
        before = (program.picture(), claim.picture(), repr(paper))
        self.taken(program, claim, *paper)
        self.assertEqual((program.picture(), claim.picture(), repr(paper)), before)


class ErrorsTest(unittest.TestCase):
    def test_the_errors(self):
        program = read_program("x: give x")
        for paper in ((), ((),), (((("x", (), ()),),),)):
            self.assertEqual(reason(judge, BOOK, Program([], [], "x"), Claim([], "all"), paper), (TooMany, "inputs"))
            self.assertEqual(reason(judge, BOOK, read_program("x: give y"), Claim([], "none"), paper), (UnknownName, "y"))
            self.assertEqual(reason(judge, BOOK, program, Claim([], "none"), paper), (WrongCount, 0))
            self.assertEqual(reason(judge, BOOK, program, Claim(["none"], "never"), paper), (UnknownName, "none"))
            self.assertEqual(reason(judge, BOOK, program, Claim(["all"], "never"), paper), (UnknownName, "never"))


if __name__ == "__main__":
    unittest.main()
