import unittest

from turnery.behind import behind
from turnery.counting import many
from turnery.desk import Desk
from turnery.errors import NoName, NoRow, NoText, NoTree, NoTurning, NoWood, OtherWood, Strays, TooGreat
from turnery.least import least
from turnery.parting import held
from turnery.sources import source
from turnery.treetexts import read_tree, show_tree
from turnery.turntexts import read_turning, show_turning
from turnery.woods import read_wood

LISTS = "list = nil | cons(num list); num = n"
SHOWN = "list = cons(num list) | nil; num = n"
ADDS = "*q0; q list nil : nil; q list cons : cons(*m0 *q1); m num n : n=1"
TURNS = "*q0; q list nil : l; q list cons : n(*q1)"
# What stands at the desk of most tests: two woods, and turnings of both.
ROWS = ["wood w " + LISTS, "wood v t = l | n(t)", "turning add w " + ADDS, "turning len w " + TURNS,
        "turning up v *q0; q t l : n(l); q t n : n(*q0)", "turning dbl v *q0; q t l : l; q t n : n(*q0 *q0)"]
NAMES = ["w", "v", "add", "len", "up", "dbl", "x", "new", "a", "b"]
NO_NAMES = ["", "A", "a1", "1", "-", "aB", "abcdefghi", "a_b", "\u00e9", "a\n", "\ta", "*", "a;", "wood.", "=",
            "\u017f"]


def filled_desk():
    desk = Desk()
    for row in ROWS:
        desk.say(row)
    return desk


class DeskCase(unittest.TestCase):
    def setUp(self):
        self.desk = filled_desk()

    def answers(self, *pairs):
        for row, answer in pairs:
            told = self.desk.say(row)
            self.assertEqual(told, answer, row)
            self.assertIs(type(told), str)

    def stands(self):
        """What is shown by each name; None where nothing stands."""
        told = {}
        for name in NAMES:
            try:
                told[name] = self.desk.say("show " + name)
            except NoName:
                told[name] = None
        return told

    def refuses(self, error, *rows):
        before = self.stands()
        for row in rows:
            with self.assertRaises(error, msg=repr(row)) as caught:
                self.desk.say(row)
            self.assertIs(type(caught.exception), error, row)
            self.assertEqual(self.stands(), before, row)


class TestDeeds(DeskCase):
    def test_wood(self):
        self.answers(("wood x t = l", "ok"), ("show x", "t = l"), ("wood x   a=b|c( a )  ; d =e ", "ok"),
                     ("show x", "a = b | c(a); d = e"), ("wood abcdefgh t=l", "ok"), ("show abcdefgh", "t = l"),
                     ("show w", SHOWN))

    def test_turning(self):
        self.answers(("turning x w " + ADDS, "ok"), ("show x", show_turning(read_turning(read_wood(LISTS), ADDS))),
                     ("turning x v a5", "ok"), ("show x", "a5"), ("turning x v   a ( b c )", "ok"),
                     ("show x", "a(b c)"))

    def test_least(self):
        self.answers(("turning x v *q0; q t l : a(b); q t n : a(c)", "ok"), ("least new x", "ok"),
                     ("show new", "a(*a0); a t l : b; a t n : c"), ("least x x", "ok"),
                     ("show x", "a(*a0); a t l : b; a t n : c"), ("same new x", "same"))
        self.assertEqual(self.desk.say("show add"), show_turning(least(read_turning(read_wood(LISTS), ADDS))))

    def test_behind(self):
        self.answers(("behind new add len", "ok"), ("same new len", "same"),
                     ("turn new cons(n cons(n nil))", "n(n(l))"),
                     ("behind new len dbl", "ok"), ("turn new cons(n cons(n nil))", "n(n(l l) n(l l))"),
                     ("behind new add add", "ok"), ("turn new cons(n5 nil)", "cons(n7 nil)"),
                     ("behind new new new", "ok"), ("turn new cons(n5 nil)", "cons(n9 nil)"),
                     ("behind up up up", "ok"), ("turn up l", "n(n(l))"))
        told = behind(read_turning(read_wood(LISTS), TURNS),
                      read_turning(read_wood("t = l | n(t)"), "*q0; q t l : l; q t n : n(*q0 *q0)"))
        self.answers(("behind new len dbl", "ok"), ("show new", show_turning(told)))

    def test_drop(self):
        self.answers(("drop w", "ok"), ("drop add", "ok"))
        self.refuses(NoName, "drop w", "drop add", "show w", "show add", "turn add nil", "turning x w a")
        # A turning has its wood of its own.
        self.answers(("turn len cons(n nil)", "n(l)"), ("wood w a = b", "ok"), ("show w", "a = b"), ("drop w", "ok"))
        for name in ["v", "len", "up", "dbl"]:
            self.answers(("drop " + name, "ok"))
        self.assertEqual(set(self.stands().values()), {None})

    def test_show(self):
        self.answers(("show w", SHOWN), ("show v", "t = l | n(t)"),
                     ("show add", "*a0; a list cons : cons(*b0 *a1); a list nil : nil; b num n : n=1"),
                     ("show dbl", "*a0; a t l : l; a t n : n(*a0 *a0)"))

    def test_turn(self):
        self.answers(("turn add nil", "nil"), ("turn add cons3(n5 cons(n-1 nil))", "cons(n6 cons(n nil))"),
                     ("turn add  cons ( n nil ) ", "cons(n1 nil)"), ("turn dbl n(n(l))", "n(n(l l) n(l l))"))

    def test_many(self):
        self.answers(("many add nil", "1"), ("many add cons(n nil)", "3"), ("many dbl n(n(l))", "7"),
                     ("many dbl " + "n(" * 39 + "l" + ")" * 39, "1099511627775"))

    def test_same(self):
        self.answers(("same add add", "same"), ("same up up", "same"),
                     ("turning x v *q0; q t l : n(l); q t n : n(n(l))", "ok"))
        for one, other in [("add", "len"), ("up", "dbl"), ("dbl", "up"), ("up", "x"), ("x", "up")]:
            told = self.desk.say(f"same {one} {other}")
            self.assertTrue(told.startswith("parted "), told)
            tree = read_tree(told[7:])
            self.assertEqual(show_tree(tree), told[7:])
            self.assertNotEqual(self.desk.say(f"turn {one} {told[7:]}"), self.desk.say(f"turn {other} {told[7:]}"))
        self.answers(("same up dbl", "parted l"), ("same add len", "parted " + show_tree(held(
            read_turning(read_wood(LISTS), ADDS), read_turning(read_wood(LISTS), TURNS))[1])))

    def test_source(self):
        self.answers(("source add cons(n6 cons(n nil))", "cons(n5 cons(n-1 nil))"), ("source add nil", "nil"),
                     ("source add cons(n6 n)", "none"), ("source add x", "none"), ("source dbl n(l l)", "n(l)"),
                     ("source dbl n(l n(l l))", "none"), ("source up l", "none"), ("source up n(n(l))", "n(l)"),
                     ("turning x v a(b5)", "ok"), ("source x a(b5)", "l"), ("source x a(b)", "none"))

    def test_what_answers_show_can_be_read(self):
        for name, wood in [("add", "w"), ("len", "w"), ("up", "v"), ("dbl", "v")]:
            shown = self.desk.say("show " + name)
            self.answers((f"turning new {wood} {shown}", "ok"), ("show new", shown), (f"same new {name}", "same"))
        self.answers(("wood new " + self.desk.say("show w"), "ok"), ("show new", SHOWN))


class TestNames(DeskCase):
    def test_a_name_used_anew(self):
        self.answers(("wood w t = l", "ok"), ("show w", "t = l"), ("turn add cons(n nil)", "cons(n1 nil)"),
                     ("turning add w *q0; q t l : a", "ok"), ("turn add l", "a"), ("turn len cons(n nil)", "n(l)"))

    def test_a_wood_where_a_turning_stood(self):
        self.answers(("wood add t = l", "ok"), ("show add", "t = l"), ("turning len add *q0; q t l : a", "ok"),
                     ("turn len l", "a"))
        self.refuses(NoName, "turn add cons(n nil)", "same add len", "least x add")

    def test_a_turning_where_a_wood_stood(self):
        self.answers(("turning w w " + ADDS, "ok"), ("turn w cons(n nil)", "cons(n1 nil)"), ("same w add", "same"),
                     ("least v w", "ok"), ("same v add", "same"), ("behind v v v", "ok"),
                     ("turn v cons(n nil)", "cons(n2 nil)"))
        self.refuses(NoName, "turning x w a", "turning x v a")

    def test_the_name_of_a_deed(self):
        for deed in ["wood", "turning", "least", "behind", "drop", "show", "turn", "many", "same", "source", "ok"]:
            self.answers((f"wood {deed} t = l", "ok"), (f"show {deed}", "t = l"), (f"turning {deed} {deed} a", "ok"),
                         (f"show {deed}", "a"), (f"same {deed} {deed}", "same"), (f"drop {deed}", "ok"))

    def test_what_is_no_name(self):
        for word in NO_NAMES:
            self.refuses(NoName, f"wood {word} t = l", f"turning {word} w {ADDS}", f"turning x {word} {ADDS}",
                         f"least {word} add", f"least x {word}", f"behind {word} add add", f"behind x {word} add",
                         f"behind x add {word}", f"drop {word}", f"show {word}", f"turn {word} nil", f"many {word} nil",
                         f"same {word} add", f"same add {word}", f"source {word} nil")

    def test_names_by_which_nothing_stands(self):
        for word in ["x", "wood", "ad", "addd", "abcdefgh"]:
            self.refuses(NoName, f"turning x {word} {ADDS}", f"least x {word}", f"behind x {word} add",
                         f"behind x add {word}", f"drop {word}", f"show {word}", f"turn {word} nil", f"many {word} nil",
                         f"same {word} add", f"same add {word}", f"source {word} nil")
        self.desk = Desk()
        self.refuses(NoName, "show w", "drop w", "turn add nil", "turning x w a", "same add add")

    def test_a_wood_where_a_turning_is_needed(self):
        self.refuses(NoName, "least x w", "behind x w add", "behind x add w", "turn w nil", "many w nil", "same w add",
                     "same add w", "same w w", "source w nil")

    def test_a_turning_where_a_wood_is_needed(self):
        self.refuses(NoName, "turning x add " + ADDS, "turning x add a")


class TestNoRow(DeskCase):
    def test_no_texts(self):
        self.refuses(NoRow, None, 0, 7, True, ("show w",), ["show", "w"], b"show w", {}, 1.5, ["show w"])

    def test_other_deeds(self):
        self.refuses(NoRow, "", " ", "  ", "x", "shows w", "Show w", "SHOW w", "sho w", " show w", "\tshow w",
                     "show\tw", "show\nw", "ok", "parted w", "none", "held add add", "woods x t = l", "early x add",
                     "list", "w", "=", "wood\u00a0x t = l", "show,w")

    def test_too_few_words(self):
        self.refuses(NoRow, "wood", "turning", "least", "behind", "drop", "show", "turn", "many", "same", "source",
                     "wood x", "turning x", "turning x w", "least x", "behind x", "behind x add", "turn add",
                     "many add", "same add", "source add")

    def test_too_many_words(self):
        self.refuses(NoRow, "least x add add", "behind x add add add", "drop add add", "show w w", "show w v",
                     "same add add add", "least x add ", "behind x add add ", "drop add ", "show w ", "same add add ",
                     "show  w", "drop  add", "least  x add", "least x  add", "same  add add", "same add  add",
                     "behind x add  add", "behind  x add add", "show w  ", "show   ")

    def test_words_without_signs(self):
        """A blank at the end, or two of them, with just as many words as there should be."""
        self.refuses(NoName, "show ", "drop ", "least x ", "least  x", "least  ", "same add ", "same  add", "same  ",
                     "behind x add ", "behind  add add", "behind x  add", "wood  t = l", "wood  ", "turning  w a",
                     "turning x  a", "turning   ", "turn  nil", "turn  ", "many  nil", "source  nil")

    def test_no_row_ahead_of_no_name(self):
        self.refuses(NoRow, "wood A", "turning A", "turning A B", "turning x nothing", "least A", "least A B C",
                     "behind A B", "behind A B C D", "drop A B", "show A B", "show nothing w", "turn A", "turn nothing",
                     "many A", "same A", "same A B C", "source A", "source nothing", "least x w w")


class TestTexts(DeskCase):
    def test_empty_texts(self):
        self.refuses(NoText, "wood x ", "turning x w ", "turn add ", "many add ", "source add ")
        self.refuses(NoText, "wood x  ", "turning x w  ", "turn add   ", "many add  ", "source add  ")

    def test_blanks_ahead_of_what_is_told(self):
        self.answers(("wood x  t = l ", "ok"), ("turning y x  a ", "ok"), ("turn add  nil ", "nil"),
                     ("many add  nil ", "1"), ("source add  nil ", "nil"))

    def test_what_the_readers_refuse(self):
        self.refuses(NoText, "wood x t", "wood x t = ", "wood x t = l;", "wood x t = L", "wood w t", "turning x w *q",
                     "turning add w a(", "turn add cons(", "turn add A", "many add a b", "source add a-",
                     "turn add a\n")
        self.refuses(NoWood, "wood x t = n(t)", "wood w t = l; t = k", "wood x t = l | n(u)")
        self.refuses(NoTurning, "turning x w *q0", "turning add w *q0; q list nil : a", "turning x v " + ADDS)

    def test_what_the_functions_refuse(self):
        self.refuses(NoTree, "turn add n", "turn add cons(nil nil)", "many add l", "turn up nil", "many dbl x")
        self.refuses(OtherWood, "same add up", "same dbl len")
        self.refuses(Strays, "behind x len add", "behind add dbl up", "behind x up add", "behind len up len")
        self.refuses(TooGreat, "turn dbl " + "n(" * 20 + "l" + ")" * 20)
        self.answers(("turning x v *q0; q t l : " + "n(" * 8 + "l" + ")" * 8 + "; q t n : n(*q0)", "ok"))
        self.refuses(TooGreat, "behind new x dbl")

    def test_what_least_and_behind_refuse(self):
        stump = "a(" + " ".join(["b"] * 9) + ")"
        for calls in [39, 40]:
            start = "z(" + " ".join(["*q0"] * calls) + ")"
            self.answers((f"turning x v {start}; q t l : {stump}; q t n : {stump}", "ok"))
            if calls == 39:
                self.answers(("least new x", "ok"), ("many new l", "391"))
        self.refuses(TooGreat, "least x x", "least new x", "least b x", "same x x", "same x up")
        self.answers(("wood a t = l | n(t t t t)", "ok"),
                     ("turning b a *q0; q t l : n(l l l l); q t n : n(*q0 *q1 *q2 *q3)", "ok"),
                     ("behind b b b", "ok"), ("turn b l", show_tree(four(2))))
        self.refuses(TooGreat, "behind b b b", "behind new b b")

    def behind_in_rings(self, one, other):
        """Says a turning of v's by x, that makes b of what has one level more than the rings have pairs, and else a."""
        letters = "abcdefghijklm"
        first = [f"{each} t l : l; {each} t n : {'m' if number == one - 1 else 'n'}(*{letters[(number + 1) % one]}0)"
                 for number, each in enumerate(letters[:one])]
        second = []
        for number, each in enumerate(letters[:other]):
            after = letters[(number + 1) % other]
            second.append(f"{each} t l : a; {each} t n : *{after}0; "
                          f"{each} t m : " + ("b" if number == other - 1 else f"*{after}0"))
        self.answers(("turning a v *a0; " + "; ".join(first), "ok"), ("wood b t = l | m(t) | n(t)", "ok"),
                     ("turning b b *a0; " + "; ".join(second), "ok"), ("behind x a b", "ok"), ("turning new v a", "ok"))

    def test_forty_levels(self):
        tree = "n(" * 39 + "l" + ")" * 39
        self.behind_in_rings(3, 13)
        self.answers(("same x new", "parted " + tree), ("same new x", "parted " + tree), ("source x b", tree),
                     ("source x a", "l"), ("source x c", "none"))
        self.behind_in_rings(5, 8)
        self.refuses(TooGreat, "same x new", "same new x", "source x b")
        self.answers(("source x a", "l"), ("source x c", "none"), ("same x x", "same"))

    def test_sources_of_sixty_names(self):
        names = {}
        for size in [58, 59, 60, 61, 62, 200]:
            names[size] = "a(" + " ".join(["b"] * (size - 1)) + ")"
        start = names[60]
        self.answers(("turning x v " + start, "ok"), ("source x " + names[60], "l"), ("source x " + names[59], "none"))
        self.refuses(TooGreat, "source x " + names[61], "source x " + names[62], "source x " + names[200])
        self.answers(("turning y v " + names[61], "ok"), ("turn y l", names[61]))
        self.refuses(TooGreat, "source y " + names[61])
        # Reading comes first: a tree of more than 200 names is none.
        self.refuses(NoText, "source x a(" + "b " * 200 + ")", "source x " + names[200] + ")")
        self.refuses(NoName, "source w " + names[61], "source A " + names[61])

    def test_sources_that_are_too_great(self):
        letters = "abcdefghijklmnopqrst"
        rules = [f"{each} t l : x; {each} t n : *{after}0; {each} t m : y(*{each}0)"
                 for each, after in zip(letters[:13], letters[1:13] + "a")]
        self.answers(("wood a t = l | m(t) | n(t)", "ok"), ("turning x a *a0; " + "; ".join(rules), "ok"),
                     ("source x y(y(x))", "m(m(l))"), ("source x " + "y(" * 6 + "z" + ")" * 6, "none"))
        self.refuses(TooGreat, "source x " + "y(" * 7 + "z" + ")" * 7)

    def test_no_name_ahead_of_what_the_functions_refuse(self):
        self.refuses(NoName, "wood A t", "wood A t = n(t)", "turning A w *q", "turning x A *q", "turning x add *q",
                     "turning x nothing *q0", "turn w A", "turn nothing A", "turn w x", "many w A", "source w A",
                     "behind A up add", "same up w", "same add nothing", "behind x up w", "least A add")

    def test_four_thousand_signs(self):
        text = "a" + " " * 3999
        self.answers(("turning x v " + text, "ok"), ("show x", "a"), ("wood y t = l" + " " * 3995, "ok"),
                     ("turn add nil" + " " * 3997, "nil"))


def four(deep):
    tree = ("l", 0, ())
    for _ in range(deep):
        tree = ("n", 0, (tree,) * 4)
    return tree


class TestDesks(DeskCase):
    def test_two_desks_know_nothing_of_one_another(self):
        other = Desk()
        self.assertRaises(NoName, other.say, "show w")
        self.assertEqual(other.say("wood w t = l"), "ok")
        self.assertEqual(other.say("turning add w a"), "ok")
        self.answers(("show w", SHOWN), ("turn add cons(n nil)", "cons(n1 nil)"), ("drop w", "ok"), ("drop add", "ok"))
        self.assertEqual([other.say("show w"), other.say("show add")], ["t = l", "a"])
        for row in ROWS:
            other.say(row)
        self.assertRaises(NoName, self.desk.say, "show w")

    def test_a_new_desk_keeps_nothing(self):
        self.desk = Desk()
        self.assertEqual(set(self.stands().values()), {None})

    def test_the_same_asked_again(self):
        rows = ["show w", "show add", "turn add cons(n nil)", "many dbl n(l)", "same up dbl", "same add add",
                "source add cons(n6 nil)", "source up l"]
        first = [self.desk.say(row) for row in rows]
        self.assertEqual([self.desk.say(row) for row in rows], first)
        self.desk.say("wood new t = l")
        self.desk.say("least a add")
        self.assertEqual([self.desk.say(row) for row in rows], first)
        self.assertEqual([filled_desk().say(row) for row in rows], first)

    def test_as_the_functions_tell(self):
        turning = read_turning(read_wood(LISTS), ADDS)
        tree = read_tree("cons2(n7 nil)")
        self.answers(("many add cons2(n7 nil)", str(many(turning, tree))),
                     ("source add cons(n7 nil)", show_tree(source(turning, read_tree("cons(n7 nil)"))[1])))


if __name__ == "__main__":
    unittest.main()
