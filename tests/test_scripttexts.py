"""Scripts and worths as texts, and reading them [5]."""

import copy
import inspect
import random
import unittest

import samples
from rankloop import scripttexts
from rankloop.errors import NoText
from rankloop.scripts import is_script
from rankloop.scripttexts import read_script, show_script, show_worth

SHOWN = [
    ((), ""),
    ((("say", "hi"),), "( say hi )"),
    ((("echo",),), "( echo )"),
    ((("spend", 0),), "( spend 0 )"),
    ((("post", 1, "n", (("say", "a"),)),), "( post 1 n [ ( say a ) ] )"),
    ((("micro", ()),), "( micro [ ] )"),
    ((("after", 1000, 0, "n", ()),), "( after 1000 0 n [ ] )"),
    ((("every", 1, 5, "n", ()),), "( every 1 5 n [ ] )"),
    ((("idle", None, "n", ()),), "( idle - n [ ] )"),
    ((("idle", 7, "n", ()),), "( idle 7 n [ ] )"),
    ((("stop", "n"),), "( stop n )"),
    ((("rerank", "n", 2),), "( rerank n 2 )"),
    ((("make", "p"),), "( make p )"),
    ((("keep", "p", None),), "( keep p - )"),
    ((("keep", "p", ()),), "( keep p < > )"),
    ((("keep", "p", (1, None, -3, "a", ((), 0))),), "( keep p < 1 - -3 a < < > 0 > > )"),
    ((("keep", "p", -1000000000),), "( keep p -1000000000 )"),
    ((("keep", "p", 1000000000),), "( keep p 1000000000 )"),
    ((("pass", "p"),), "( pass p )"),
    ((("break", "p", "w"),), "( break p w )"),
    ((("follow", "p", "q"),), "( follow p q )"),
    ((("then", "p", "q", None, None),), "( then p q - - )"),
    ((("then", "p", "q", (), (("echo",),)),), "( then p q [ ] [ ( echo ) ] )"),
    ((("all", "q", ()),), "( all q < > )"),
    ((("any", "q", ("a", "b")),), "( any q < a b > )"),
    ((("first", "q", ("a", "a")),), "( first q < a a > )"),
    ((("each", "q", ("a",)),), "( each q < a > )"),
    ((("give", (("a",),)),), "( give < < a > > )"),
    ((("fail", "w"),), "( fail w )"),
    ((("guard", (("echo",),), None, ()),), "( guard [ ( echo ) ] - [ ] )"),
    ((("guard", (), (("echo",), ("echo",)), ()),), "( guard [ ] [ ( echo ) ( echo ) ] [ ] )"),
    ((("if", "p", (("say", "a"),), (("say", "b"),)),), "( if p [ ( say a ) ] [ ( say b ) ] )"),
    ((("wait", "p"),), "( wait p )"),
    ((("run", "p"),), "( run p )"),
    ((("story", "q", ()),), "( story q [ ] )"),
    ((("cancel", "q"),), "( cancel q )"),
    ((("yield", 3),), "( yield 3 )"),
    ((("call", "w"),), "( call w )"),
    ((("say", "a"), ("say", "b"), ("echo",)), "( say a ) ( say b ) ( echo )"),
    ((("micro", (("micro", (("micro", (("micro", ()),)),)),)),), "( micro [ ( micro [ ( micro [ ( micro [ ] ) ] ) ] ) ] )"),
]

WORTHS = [
    (None, "-"), ("word", "word"), (0, "0"), (7, "7"), (-7, "-7"), (10 ** 9, "1000000000"), (-10 ** 9, "-1000000000"),
    ((), "< >"), ((None,), "< - >"), ((1, "a", None, -2), "< 1 a - -2 >"), (((), ((), ())), "< < > < < > < > > >"),
    ((((((),),),),)[0], "< < < < > > > >"), ((1,) * 20, "< " + "1 " * 20 + ">"),
]

REFUSED = [
    # blanks and line ends
    " ", "  ", "\n", "\t", "( echo ) ", " ( echo )", "(  echo )", "( echo  )", "( echo )  ( echo )", "( echo )\n",
    "\n( echo )", "( echo )\n( echo )", "( say\ta )", "( say\na )", "(echo)", "( echo)", "(echo )", "( echo )( echo )",
    "( micro [] )", "( micro [  ] )", "( keep p <> )", "( keep p <  > )", "( keep p <1> )", "( say a\n )",
    # brackets
    "(", ")", "[", "]", "<", ">", "( )", "[ ]", "< >", "( echo", "echo )", "echo", "( echo ) )", "( ( echo ) )", "( ( echo )",
    "[ ( echo ) ]", "( echo ]", "[ echo )", "< echo >", "( micro [ )", "( micro ] )", "( micro [ ) ]", "( micro ( ) )",
    "( micro < > )", "( micro [ ( echo ] ) )", "( micro [ echo ] )", "( micro ( echo ) )", "( micro < < echo > > )",
    "( micro [ [ ( echo ) ] ] )", "( micro [ ( echo ) ) )", "( keep p < )", "( keep p > )", "( keep p < ] )",
    "( keep p [ ] )", "( keep p ( ) )", "( keep p [ 1 ] )", "( all q [ ] )", "( all q ( a ) )", "( all q [ a ] )",
    "( keep p < < > )", "( keep p < > > )", ") (", "( echo ) (", "( echo ) ) (", "( all q < a > b )", "( all q a )", "( all q - )",
    # numbers
    "( spend -0 )", "( spend 00 )", "( spend 01 )", "( spend +1 )", "( spend -1 )", "( spend 1001 )", "( spend 1.0 )",
    "( spend 1_0 )", "( spend 1e2 )", "( spend - )", "( spend )", "( spend a )", "( spend 1 1 )", "( spend 0x1 )",
    "( spend --1 )", "( spend 1- )", "( keep p -0 )", "( keep p 007 )", "( keep p -01 )", "( keep p +0 )", "( keep p +7 )",
    "( keep p 1000000001 )", "( keep p -1000000001 )", "( keep p 9999999999 )", "( keep p 10000000000 )",
    "( keep p 00000000001 )", "( keep p 0000000001 )", "( keep p < -0 > )", "( keep p - 1 )", "( keep p -- )", "( keep p 1a )",
    "( every 0 0 n [ ] )", "( every 1001 0 n [ ] )", "( after 1001 0 n [ ] )", "( after - 0 n [ ] )", "( idle 1001 n [ ] )",
    "( post 6 n [ ] )", "( post -1 n [ ] )", "( yield 6 )", "( rerank n 6 )", "( keep p 1 2 )", "( keep p True )",
    # words and deeds
    "( say A )", "( say abcdefghi )", "( say 1 )", "( say - )", "( say a1 )", "( say < > )", "( say [ ] )", "( say )",
    "( say a b )", "( Say a )", "( SAY a )", "( says a )", "( told )", "( None )", "( - )", "( 1 )", "( a say )", "( echo a )",
    "( micro - )", "( micro )", "( micro a )", "( if p [ ] )", "( if p [ ] - )", "( guard [ ] [ ] - )", "( guard - - [ ] )",
    "( then p q - )", "( then p - - - )", "( all q < A > )", "( all q < 1 > )", "( all q < - > )", "( all q < < a > > )",
    "( all q < a b c d e f g h i > )", "( give )", "( say a% )", "( say ~ )",
]


class Shown(unittest.TestCase):
    def test_scripts(self):
        for script, text in SHOWN:
            self.assertEqual(show_script(script), text)

    def test_every_deed_is_among_them(self):
        deeds = {deed[0] for script, _ in SHOWN for deed in script}
        self.assertEqual(deeds, {form[0] for form in samples.FORMS})

    def test_worths(self):
        for worth, text in WORTHS:
            self.assertEqual(show_worth(worth), text)

    def test_somewhat_beyond_the_limits(self):
        self.assertEqual(show_script((("echo",),) * 201), " ".join(["( echo )"] * 201))
        self.assertEqual(show_script(samples.script_within(6)).count("[ ( micro"), 4)
        self.assertEqual(show_script((("spend", 1001), ("yield", 6))), "( spend 1001 ) ( yield 6 )")
        self.assertEqual(show_script((("all", "q", tuple("abcdefghi")),)), "( all q < a b c d e f g h i > )")
        self.assertEqual(show_worth(10 ** 9 + 1), "1000000001")
        self.assertEqual(show_worth((1,) * 21), "< " + "1 " * 21 + ">")
        self.assertEqual(show_worth((((((),),),),)), "< < < < < > > > > >")


class Read(unittest.TestCase):
    def read_again(self, script):
        told = read_script(show_script(script))
        self.assertEqual(told, script)
        # repr tells the kinds too: 1 and True, tuples and lists.
        self.assertEqual(repr(told), repr(script))

    def refuse(self, thing):
        with self.assertRaises(NoText) as caught:
            read_script(thing)
        self.assertEqual(caught.exception.row, 0)
        self.assertIs(type(caught.exception.row), int)

    def test_as_shown(self):
        for script, text in SHOWN:
            self.assertEqual(repr(read_script(text)), repr(script))

    def test_each_deed(self):
        for deed in samples.all_good_deeds():
            self.read_again((deed,))
            self.read_again((("say", "a"), deed, ("echo",)))
            self.read_again((("micro", (deed,)),))

    def test_worths_in_scripts(self):
        for worth, text in WORTHS:
            self.assertEqual(read_script(f"( give {text} )"), (("give", worth),))

    def test_by_chance(self):
        for script in samples.random_scripts(1000, seed=2):
            if is_script(script):
                self.read_again(script)
            else:
                self.refuse(show_script(script))

    def test_unlike_scripts_have_unlike_texts(self):
        by_text = {}
        chosen = [(deed,) for deed in samples.all_good_deeds()] + samples.random_scripts(3000, seed=3)
        for script in chosen:
            other = by_text.setdefault(show_script(script), script)
            self.assertEqual(repr(other), repr(script))
        self.assertEqual(len(by_text), len({repr(script) for script in chosen}))

    def test_refused(self):
        for text in REFUSED:
            with self.subTest(text=text):
                self.refuse(text)

    def test_many_figures(self):
        for many in (11, 100, 4300, 4301, 5000, 100000):
            for figures in ("9" * many, "1" + "0" * many, "0" * many, "-" + "9" * many, "0" * many + "1"):
                for text in (f"( spend {figures} )", f"( keep p {figures} )", f"( keep p < {figures} > )",
                             f"( {figures} )", f"( say {figures} )", figures, f"( post {figures} n [ ] )"):
                    self.refuse(text)

    def test_figures_of_other_writings(self):
        for figure in ("\u00b2", "\u0663", "\uff11"):
            self.refuse(f"( spend {figure} )")
            self.refuse(f"( keep p -{figure} )")

    def test_too_many_deeds(self):
        for many in (200, 201, 202, 1000, 20000):
            text = " ".join(["( echo )"] * many)
            if many <= 200:
                self.assertEqual(read_script(text), (("echo",),) * many)
            else:
                self.refuse(text)
        self.read_again(samples.nested_deeds(200))
        self.refuse(show_script(samples.nested_deeds(201)))

    def test_too_deep(self):
        self.read_again(samples.script_within(5))
        self.refuse(show_script(samples.script_within(6)))
        self.refuse(show_script(samples.script_within(30)))
        self.read_again((("give", ((((),),),)),))
        self.refuse("( give < < < < < > > > > > )")
        for many in (2000, 100000):
            for opening, closing in (("( micro [", "] )"), ("[", "]"), ("<", ">"), ("(", ")")):
                self.refuse(" ".join([opening] * many + [closing] * many))
                self.refuse(" ".join([opening] * many))
                self.refuse(" ".join([closing] * many))
            self.refuse("( give " + "< " * many + "> " * many + ")")

    def test_too_many_worths(self):
        self.read_again((("give", ("a",) * 20),))
        self.refuse("( give < " + "a " * 21 + "> )")

    def test_no_texts(self):
        for thing in samples.anything():
            if not isinstance(thing, str):
                self.refuse(thing)
        for thing in ((("echo",),), [("echo",)], ["( echo )"], ("( echo )",), {"( echo )": 1}):
            self.refuse(thing)

    def test_just_what_is_written(self):
        chance = random.Random(4)
        signs = [" ", "  ", "(", ")", "[", "]", "<", ">", "-", "0", "1", "a", "Z", "\n", " - ", " 0 ", " ( ", " ) ", " [ ] ",
                 " < > ", "+", "~", "!"]
        read = 0
        for script, text in SHOWN * 40:
            at = chance.randrange(len(text) + 1)
            behind = at + chance.randrange(3)
            edited = text[:at] + chance.choice(signs) * chance.randrange(2) + text[behind:]
            try:
                told = read_script(edited)
            except NoText as refusal:
                self.assertEqual(refusal.row, 0)
                continue
            read += 1
            self.assertTrue(is_script(told))
            self.assertEqual(show_script(told), edited)
        self.assertGreater(read, 40)


class Interface(unittest.TestCase):
    def test_names_and_places(self):
        for name, argument in (("show_script", "script"), ("read_script", "text"), ("show_worth", "worth")):
            function = getattr(scripttexts, name)
            self.assertEqual(str(inspect.signature(function)), f"({argument})")
            self.assertEqual(function.__module__, "rankloop.scripttexts")
        self.assertEqual(show_script(script=(("echo",),)), "( echo )")
        self.assertEqual(read_script(text="( echo )"), (("echo",),))
        self.assertEqual(show_worth(worth=(1, None)), "< 1 - >")

    def test_nothing_handed_in_is_changed(self):
        for thing in samples.anything():
            kept = copy.deepcopy(thing)
            try:
                read_script(thing)
            except NoText:
                pass
            self.assertEqual(thing, kept)


if __name__ == "__main__":
    unittest.main()
