"""Words, worths and scripts [2, 4]."""

import copy
import inspect
import unittest

import samples
from rankloop import scripts
from rankloop.scripts import deeds_in, is_script, is_word, is_worth, words_in


class Words(unittest.TestCase):
    def test_words(self):
        for word in ("a", "z", "ab", "abcdefgh", "zzzzzzzz", "say", "none"):
            self.assertIs(is_word(word), True, word)

    def test_lengths(self):
        for many in range(20):
            self.assertIs(is_word("q" * many), 1 <= many <= 8, many)

    def test_only_small_letters(self):
        letters = "abcdefghijklmnopqrstuvwxyz"
        for number in range(0x250):
            for text in (chr(number), chr(number) + "b", "b" + chr(number), "abc" + chr(number) + "abc"):
                self.assertIs(is_word(text), chr(number) in letters, text)

    def test_of_anything(self):
        for thing in samples.anything():
            self.assertIs(is_word(thing), thing in ("a", "word", "abcdefgh"), thing)
        for thing in samples.NO_WORDS:
            self.assertIs(is_word(thing), False, thing)


class Worths(unittest.TestCase):
    def test_plain_worths(self):
        for worth in (None, "a", "abcdefgh", 0, 1, -1, 10 ** 9, -10 ** 9, ()):
            self.assertIs(is_worth(worth), True, worth)

    def test_ends_of_numbers(self):
        for number in (10 ** 9 + 1, -10 ** 9 - 1, 10 ** 100, -10 ** 100, 10 ** 5000):
            self.assertIs(is_worth(number), False)
            self.assertIs(is_worth((number,)), False)

    def test_truths_are_no_numbers(self):
        for truth in (True, False):
            self.assertIs(is_worth(truth), False)
            self.assertIs(is_worth((1, truth)), False)

    def test_twenty_in_a_tuple(self):
        for part in (None, "a", 5, (), (1, 2)):
            self.assertIs(is_worth((part,) * 20), True)
            self.assertIs(is_worth((part,) * 21), False)
            self.assertIs(is_worth((1, (part,) * 20)), True)
            self.assertIs(is_worth((1, (part,) * 21)), False)

    def test_four_within_one_another(self):
        for innermost in ((), (1,), ("a", None)):
            worth = innermost
            for levels in range(1, 31):
                self.assertIs(is_worth(worth), levels <= 4, levels)
                self.assertIs(is_worth((0, worth)), levels <= 3, levels)
                worth = (worth,)

    def test_many_parts_in_all(self):
        self.assertIs(is_worth((((1,) * 20,) * 20,) * 20), True)

    def test_lists_and_dicts_are_none(self):
        for thing in ([], [1], {}, {"a": 1}, ([],), ({},), (1, [2]), ((1, ("a", {})),)):
            self.assertIs(is_worth(thing), False, thing)

    def test_of_anything(self):
        worths = [None, 0, 1, -1, 7, 10 ** 9, -10 ** 9, "a", "word", "abcdefgh", (), ("a",), (None, 1, "b"),
                  ("echo",), (("echo",),)]
        for thing in samples.anything():
            told = any(type(thing) is type(worth) and thing == worth for worth in worths)
            self.assertIs(is_worth(thing), told)


class Scripts(unittest.TestCase):
    def test_each_deed(self):
        self.assertEqual(len({form[0] for form in samples.FORMS}), 30)
        for deed in samples.all_good_deeds():
            self.assertIs(is_script((deed,)), True, deed)

    def test_parts_of_another_kind(self):
        for form in samples.FORMS:
            for at, kind in enumerate(form[1:], 1):
                for part in samples.PARTS[kind][1]:
                    deed = list(samples.plain_deed(form))
                    deed[at] = part
                    self.assertIs(is_script((tuple(deed),)), False, (form, at))

    def test_a_part_out_or_more(self):
        for form in samples.FORMS:
            deed = samples.plain_deed(form)
            for at in range(len(deed)):
                shorter = deed[:at] + deed[at + 1:]
                self.assertIs(is_script((shorter,)), False, shorter)
            for part in (None, "a", 1, (), ("a",), samples.S):
                for longer in ((*deed, part), (deed[0], part, *deed[1:])):
                    self.assertIs(is_script((longer,)), False, longer)

    def test_a_list_in_the_place_of_a_tuple(self):
        for form in samples.FORMS:
            deed = samples.plain_deed(form)
            self.assertIs(is_script((list(deed),)), False)
            self.assertIs(is_script([deed]), False)
            for at, part in enumerate(deed):
                if isinstance(part, tuple):
                    self.assertIs(is_script(((*deed[:at], list(part), *deed[at + 1:]),)), False)

    def test_unknown_deeds(self):
        for word in ("", "Say", "SAY", "says", "told", "word", "script", "perhaps", None, 1, True, ("say",), ["say"], {}):
            for parts in ((), ("a",), (samples.S,)):
                self.assertIs(is_script(((word, *parts),)), False, word)

    def test_a_wrong_deed_anywhere(self):
        for wrong in ((), None, "echo", ("say",), ["echo"], ("spend", True)):
            for script in ((wrong,), (("echo",), wrong), (wrong, ("echo",)), (("micro", (wrong,)),),
                           (("guard", (), None, (wrong,)),), (("then", "p", "q", None, (wrong,)),)):
                self.assertIs(is_script(script), False, script)

    def test_side_by_side(self):
        for many in (0, 1, 199, 200, 201, 202, 500, 100000):
            self.assertIs(is_script((("echo",),) * many), many <= 200, many)

    def test_deeds_within_one_another_count(self):
        for many in (2, 3, 199, 200, 201, 202, 300):
            script = samples.nested_deeds(many)
            self.assertIs(is_script(script), many <= 200, many)
        pair = ("micro", (("echo",),))
        self.assertIs(is_script((pair,) * 100), True)
        self.assertIs(is_script((pair,) * 100 + (("echo",),)), False)
        self.assertIs(is_script((("echo",),) + (pair,) * 100), False)

    def test_every_script_of_a_deed_counts(self):
        full, over = (("echo",),) * 198, (("echo",),) * 199
        for deed in (("post", 0, "n", over), ("micro", over), ("after", 0, 0, "n", over), ("every", 1, 0, "n", over),
                     ("idle", None, "n", over), ("then", "p", "q", over, None), ("then", "p", "q", None, over),
                     ("guard", over, None, ()), ("guard", (), over, ()), ("guard", (), (), over),
                     ("if", "p", over, ()), ("if", "p", (), over), ("story", "q", over)):
            self.assertIs(is_script((deed,)), True)
            self.assertIs(is_script((deed, ("echo",))), False)
            fuller = tuple([full if part == over else part for part in deed])
            self.assertIs(is_script((fuller, ("echo",))), True)

    def test_five_within_one_another(self):
        for innermost in ((), (("echo",),)):
            for levels in range(1, 31):
                script = samples.script_within(levels, innermost)
                self.assertIs(is_script(script), levels <= 5, levels)
                self.assertIs(is_script((("echo",), *script)), levels <= 5, levels)

    def test_levels_through_every_deed(self):
        for wrap in (lambda s: ("post", 0, "n", s), lambda s: ("micro", s), lambda s: ("after", 0, 0, "n", s),
                     lambda s: ("every", 1, 0, "n", s), lambda s: ("idle", 5, "n", s),
                     lambda s: ("then", "p", "q", s, None), lambda s: ("then", "p", "q", None, s),
                     lambda s: ("guard", s, None, ()), lambda s: ("guard", (), s, ()), lambda s: ("guard", (), None, s),
                     lambda s: ("if", "p", s, ()), lambda s: ("if", "p", (), s), lambda s: ("story", "q", s)):
            self.assertIs(is_script((wrap(samples.script_within(4)),)), True)
            self.assertIs(is_script((wrap(samples.script_within(5)),)), False)

    def test_worths_have_levels_of_their_own(self):
        deep = ("keep", "p", ((((),),),))
        self.assertIs(is_script(samples.script_within(5, (deep,))), True)

    def test_vast_things_are_refused_soon(self):
        script = (("echo",),)
        for _ in range(30):
            script = (("guard", script, script, script),) * 200
        self.assertIs(is_script(script), False)

    def test_of_anything(self):
        for thing in samples.anything():
            told = type(thing) is tuple and thing in ((), (("echo",),))
            self.assertIs(is_script(thing), told)

    def test_by_chance(self):
        for script in samples.random_scripts(500):
            self.assertIs(is_script(script), deeds_in(script) <= 200)


class DeedsIn(unittest.TestCase):
    def test_without_scripts(self):
        for many in (0, 1, 2, 200):
            self.assertEqual(deeds_in((("echo",),) * many), many)
        self.assertEqual(deeds_in((("keep", "p", ("a", ("b", "c"))), ("all", "q", ("a", "b")))), 2)

    def test_scripts_within(self):
        self.assertEqual(deeds_in((("micro", ()),)), 1)
        self.assertEqual(deeds_in((("micro", samples.T),)), 3)
        self.assertEqual(deeds_in((("guard", samples.S, samples.T, samples.L),)), 5)
        self.assertEqual(deeds_in((("guard", samples.S, None, samples.L),)), 3)
        self.assertEqual(deeds_in((("then", "p", "q", None, None),)), 1)
        self.assertEqual(deeds_in((("then", "p", "q", samples.T, samples.S), ("if", "p", (), samples.T))), 7)
        self.assertEqual(deeds_in(samples.script_within(5, samples.T)), 6)
        self.assertEqual(deeds_in(samples.nested_deeds(200)), 200)

    def test_each_deed_with_a_script(self):
        for form in samples.FORMS:
            parts = [samples.T if kind in ("S", "S?") else samples.PARTS[kind][0][0] for kind in form[1:]]
            inner = 2 * len([kind for kind in form if kind in ("S", "S?")])
            self.assertEqual(deeds_in(((form[0], *parts),)), 1 + inner, form)

    def test_somewhat_beyond_the_limits(self):
        self.assertEqual(deeds_in((("echo",),) * 205), 205)
        self.assertEqual(deeds_in(samples.script_within(8)), 7)
        self.assertEqual(deeds_in((("spend", 1001), ("yield", 6), ("say", "abcdefghi"))), 3)


class WordsIn(unittest.TestCase):
    def test_none(self):
        for script in ((), (("echo",), ("spend", 3), ("yield", 1)), (("micro", (("give", None),)),), (("give", 5),)):
            self.assertEqual(words_in(script), [])

    def test_each_deeds_words(self):
        for deed, words in (
            (("say", "w"), ["w"]),
            (("post", 1, "n", (("say", "s"),)), ["n", "s"]),
            (("micro", (("say", "s"),)), ["s"]),
            (("after", 5, 1, "n", (("say", "s"),)), ["n", "s"]),
            (("every", 5, 1, "n", (("say", "s"),)), ["n", "s"]),
            (("idle", None, "n", (("say", "s"),)), ["n", "s"]),
            (("stop", "n"), ["n"]),
            (("rerank", "n", 2), ["n"]),
            (("make", "p"), ["p"]),
            (("keep", "p", ("c", ("b", None, 4, ("a",)))), ["a", "b", "c", "p"]),
            (("keep", "p", "v"), ["p", "v"]),
            (("pass", "p"), ["p"]),
            (("break", "p", "w"), ["p", "w"]),
            (("follow", "p", "q"), ["p", "q"]),
            (("then", "p", "q", (("say", "s"),), (("say", "t"),)), ["p", "q", "s", "t"]),
            (("then", "p", "q", None, None), ["p", "q"]),
            (("all", "q", ("b", "a", "b")), ["a", "b", "q"]),
            (("any", "q", ("b", "a")), ["a", "b", "q"]),
            (("first", "q", ("b", "a")), ["a", "b", "q"]),
            (("each", "q", ()), ["q"]),
            (("give", ("v", "u")), ["u", "v"]),
            (("fail", "w"), ["w"]),
            (("guard", (("say", "s"),), (("say", "t"),), (("say", "l"),)), ["l", "s", "t"]),
            (("if", "p", (("say", "s"),), (("say", "t"),)), ["p", "s", "t"]),
            (("wait", "p"), ["p"]),
            (("run", "p"), ["p"]),
            (("story", "q", (("say", "s"),)), ["q", "s"]),
            (("cancel", "q"), ["q"]),
            (("call", "w"), ["w"]),
        ):
            self.assertEqual(words_in((deed,)), words, deed)

    def test_once_each_and_sorted(self):
        script = (("say", "b"), ("say", "a"), ("say", "b"), ("micro", (("say", "a"), ("say", "ab"), ("keep", "b", "c"))))
        self.assertEqual(words_in(script), ["a", "ab", "b", "c"])

    def test_deeds_own_words_only_where_they_are_words(self):
        self.assertEqual(words_in((("say", "echo"), ("echo",), ("make", "say"))), ["echo", "say"])

    def test_a_new_list_each_time(self):
        script = (("say", "b"), ("say", "a"))
        told = words_in(script)
        told.append("more")
        told[0] = "other"
        self.assertEqual(words_in(script), ["a", "b"])
        self.assertIsNot(words_in(script), words_in(script))
        self.assertIs(type(words_in(())), list)

    def test_somewhat_beyond_the_limits(self):
        self.assertEqual(words_in((("say", "abcdefghi"),) * 205), ["abcdefghi"])
        self.assertEqual(words_in(samples.script_within(8, (("say", "a"),))), ["a"])
        self.assertEqual(words_in((("give", ((((("a",),),),),)),)), ["a"])
        self.assertEqual(words_in((("all", "q", tuple("abcdefghi")),)), list("abcdefghiq"))


class Interface(unittest.TestCase):
    def test_names_and_places(self):
        for name, argument in (("is_word", "thing"), ("is_worth", "thing"), ("is_script", "thing"),
                               ("deeds_in", "script"), ("words_in", "script")):
            function = getattr(scripts, name)
            self.assertEqual(str(inspect.signature(function)), f"({argument})")
            self.assertEqual(function.__module__, "rankloop.scripts")
            self.assertEqual(function(**{argument: (("say", "a"),)}), function((("say", "a"),)))

    def test_nothing_handed_in_is_changed(self):
        for thing in samples.anything():
            kept = copy.deepcopy(thing)
            for function in (is_word, is_worth, is_script):
                function(thing)
            self.assertEqual(thing, kept)


if __name__ == "__main__":
    unittest.main()
