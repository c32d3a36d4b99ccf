import unittest

from support import fault_of
from wholetongue.words import words_of

OWN = (
    "use const keep out def num yes no let if else while end give say do or and not mod".split()
)
SIGNS = "( ) , . = <> < <= + - * /".split()


def bare(text):
    """Kinds and words, without their places."""
    return [(kind, word) for kind, word, _ in words_of(text)]


class WordsTest(unittest.TestCase):
    def refused(self, text, row, column):
        self.assertEqual(fault_of(words_of, text), ("words", "", (row, column), "word"), repr(text))

    def test_a_row(self):
        told = words_of("let a = b.c(12)")
        self.assertEqual(told, [
            ("own", "let", (1, 1)), ("name", "a", (1, 5)), ("sign", "=", (1, 7)),
            ("name", "b", (1, 9)), ("sign", ".", (1, 10)), ("name", "c", (1, 11)),
            ("sign", "(", (1, 12)), ("num", "12", (1, 13)), ("sign", ")", (1, 15)),
        ])
        self.assertIs(type(told), list)
        self.assertEqual({type(word) for word in told}, {tuple})

    def test_own_words(self):
        for word in OWN:
            self.assertEqual(words_of(word), [("own", word, (1, 1))])

    def test_names_near_own_words(self):
        for word in ("us", "uses", "mods", "nota", "xor", "in", "then", "true", "print", "ends"):
            self.assertEqual(words_of(word), [("name", word, (1, 1))])

    def test_all_letters_and_figures(self):
        self.assertEqual(bare("abcdef ghijkl mnopqr stuvwx yz"), [
            ("name", word) for word in ("abcdef", "ghijkl", "mnopqr", "stuvwx", "yz")
        ])
        self.assertEqual(bare("12345 67890"), [("num", "12345"), ("num", "67890")])

    def test_signs(self):
        for sign in SIGNS:
            self.assertEqual(words_of(sign), [("sign", sign, (1, 1))])

    def test_signs_side_by_side(self):
        self.assertEqual(
            [word for _, word in bare("(),.=+-*/()")], ["(", ")", ",", ".", "=", "+", "-", "*", "/", "(", ")"]
        )

    def test_the_longest_sign_that_can_be(self):
        self.assertEqual([word for _, word in bare("a<>b")], ["a", "<>", "b"])
        self.assertEqual([word for _, word in bare("a<=b")], ["a", "<=", "b"])
        self.assertEqual([word for _, word in bare("<<=<<>=<")], ["<", "<=", "<", "<>", "=", "<"])
        self.assertEqual([word for _, word in bare("=< < =")], ["=", "<", "<", "="])
        self.assertEqual([word for _, word in bare("--")], ["-", "-"])

    def test_letters_and_figures_side_by_side(self):
        self.assertEqual(words_of("ab12cd"), [
            ("name", "ab", (1, 1)), ("num", "12", (1, 3)), ("name", "cd", (1, 5)),
        ])
        self.assertEqual(words_of("7let"), [("num", "7", (1, 1)), ("own", "let", (1, 2))])
        self.assertEqual(words_of("abcdef123456"), [("name", "abcdef", (1, 1)), ("num", "123456", (1, 7))])

    def test_letters_side_by_side_are_one_word(self):
        self.assertEqual(bare("notyes"), [("name", "notyes")])
        self.assertEqual(bare("not yes"), [("own", "not"), ("own", "yes")])

    def test_blanks(self):
        self.assertEqual(words_of("   a   b   "), [("name", "a", (1, 4)), ("name", "b", (1, 8))])

    def test_rows_and_columns_from_one(self):
        self.assertEqual(words_of("a\n b\n\n  c d"), [
            ("name", "a", (1, 1)), ("name", "b", (2, 2)), ("name", "c", (4, 3)), ("name", "d", (4, 5)),
        ])

    def test_empty_texts(self):
        for text in ("", "\n", "\n\n\n", "   ", " \n  \n", "#", "# a\n#b"):
            self.assertEqual(words_of(text), [])

    def test_remarks(self):
        self.assertEqual(words_of("a# b ! ? toolongaword 01\nc #d # e"), [
            ("name", "a", (1, 1)), ("name", "c", (2, 1)),
        ])

    def test_a_remark_ends_with_its_row(self):
        self.assertEqual(words_of("#a\nb"), [("name", "b", (2, 1))])

    def test_length_of_names(self):
        self.assertEqual(bare("abcdef"), [("name", "abcdef")])
        self.refused("abcdefg", 1, 1)
        self.refused("let abcdefgh = 1", 1, 5)

    def test_length_of_numbers(self):
        self.assertEqual(bare("123456 100000 999999"), [
            ("num", "123456"), ("num", "100000"), ("num", "999999"),
        ])
        self.refused("1234567", 1, 1)
        self.refused("a = 1000000", 1, 5)

    def test_needless_noughts(self):
        self.assertEqual(bare("0 10 0"), [("num", "0"), ("num", "10"), ("num", "0")])
        for text in ("00", "01", "000000", "012345", "0000001"):
            self.refused(text, 1, 1)
        self.refused("a + 07", 1, 5)

    def test_signs_that_begin_no_word(self):
        for sign in "!\"$%&':;>?@[\\]^_`{|}~ABCXYZ\t":
            self.refused(sign, 1, 1)
            self.refused("a\nab " + sign + "b", 2, 4)

    def test_a_longer_sign_that_is_none(self):
        self.refused("a >= b", 1, 3)
        self.refused("a => b", 1, 4)
        self.refused("<>>", 1, 3)

    def test_of_several_faults_the_first_place(self):
        self.refused("a\n  01 !\nabcdefg", 2, 3)
        self.refused("a ! abcdefg", 1, 3)
        self.refused("abcdefg !", 1, 1)
        self.refused("1234567 00", 1, 1)
        self.refused("# !\n\n ?\n!", 3, 2)

    def test_more_rows_than_a_house_may_have_are_told(self):
        self.assertEqual(words_of("\n" * 70 + "a"), [("name", "a", (71, 1))])

    def test_asked_again_the_same_is_told(self):
        first = words_of("a = 1 # b\nsay a")
        again = list(first)
        first.clear()
        self.assertEqual(words_of("a = 1 # b\nsay a"), again)
        first = words_of("")
        first.append("more")
        self.assertEqual(words_of(""), [])


if __name__ == "__main__":
    unittest.main()
