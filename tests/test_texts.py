"""[8]: texts of numbers and of systems."""

import unittest
from random import Random

from checkwright.errors import InvalidCode, InvalidNumber, InvalidSystem, InvalidText
from checkwright.systems import plain_system
from checkwright.texts import code_of_text, is_alphabet, system_of_text, text_of_code, text_of_system
from tests.helper import Case, Group, nested, strange, wrong_codes, wrong_counts, wrong_systems

ALL = "".join(chr(at) for at in range(33, 127) if chr(at) not in ":,")
THREE = ((3,), [[0, 1, 2], [0, 2, 1], [1, 2, 0]], 1)
NO_STRINGS = [None, True, False, 0, 3, [], (), {}, ["a", "b", "c"], ("a", "b", "c"), {"a": 1}, nested(30, list)]
BAD_SIGNS = ["ab:", "ab,", ":ab", ",ab", "ab ", " ab", "ab\t", "ab\n", "\nab", "aba", "abb", "aaa", "a b"]


def lines(*told):
    return "".join(line + "\n" for line in told)


class Alphabets(Case):
    def test_is_alphabet(self):
        self.judges(is_alphabet, ["abc", "cba", "!~0", "ABC", "aAb", "\\\"'"], NO_STRINGS + BAD_SIGNS + [
            "", "a", "ab", "abcd", "abca"], number=3)
        self.judges(is_alphabet, ["a", "!", "~", "0"], NO_STRINGS + ["", " ", ":", ",", "ab", "\n", "\t", "aa"], number=1)
        self.judges(is_alphabet, [ALL, ALL[::-1]], [ALL[1:], ALL + ":", ALL + ",", ALL + "!", ALL[1:] + "~"], number=92)
        self.judges(is_alphabet, [], [ALL, ALL + ":", ALL + ",", ""], number=93)
        self.judges(is_alphabet, [], ["", "abc"], number=10 ** 30 - 1)

    def test_each_character(self):
        for character in ALL:
            self.assertIs(is_alphabet(1, character), True)
        for character in "\t\n :,":
            self.assertIs(is_alphabet(1, character), False)

    def test_errors(self):
        self.refuses_first(is_alphabet, {"number": 3, "value": "abc"}, [("number", InvalidNumber, wrong_counts(1))])


class Numbers(Case):
    def test_there_and_back(self):
        random = Random(8)
        for orders, alphabet in [((2,), "01"), ((10,), "0123456789"), ((2, 2), "dcba"), ((40,), ALL[:40]), ((92,), ALL)]:
            system = plain_system(orders, 6)
            for _ in range(10):
                code = [random.randrange(len(alphabet)) for _ in range(6)]
                text = "".join(alphabet[sign] for sign in code)
                self.gives(text, text_of_code, system=system, alphabet=alphabet, code=code)
                self.gives(code, code_of_text, system=system, alphabet=alphabet, text=text)

    def test_ordinary_ones(self):
        self.gives("bca", text_of_code, system=THREE, alphabet="abc", code=[1, 2, 0])
        self.gives([2, 0, 0], code_of_text, system=THREE, alphabet="abc", text="caa")
        self.gives("!~!", text_of_code, system=THREE, alphabet="~!0", code=[1, 0, 1])
        self.gives("a" * 40, text_of_code, system=plain_system((3,), 40), alphabet="abc", code=[0] * 40)

    def test_errors(self):
        alphabets = NO_STRINGS + BAD_SIGNS + ["", "a", "ab", "abcd", ALL]
        self.refuses(text_of_code, {"system": THREE, "alphabet": "abc", "code": [0, 1, 2]}, [
            ("system", InvalidSystem, wrong_systems()), ("alphabet", InvalidText, alphabets),
            ("code", InvalidCode, wrong_codes(3, 3))])
        texts = NO_STRINGS + ["", "a", "ab", "abca", "abd", "abA", " ab", "ab ", "ab\n", "012", "aaaa", [0, 1, 2]]
        self.refuses(code_of_text, {"system": THREE, "alphabet": "abc", "text": "cba"}, [
            ("system", InvalidSystem, wrong_systems()), ("alphabet", InvalidText, alphabets),
            ("text", InvalidText, texts + [nested(30, tuple)])])


class Systems(Case):
    def told(self, system, alphabet):
        """The text, by looking each member up."""
        orders, tables, total = system
        places = ["".join(alphabet[table.index(member)] for member in range(len(table))) for table in tables]
        return lines(",".join(map(str, orders)), *places, f"total: {total}")

    def test_there_and_back(self):
        random = Random(9)
        for orders in [(2,), (3,), (2, 2), (4,), (10,), (2, 5), (5, 2), (40,), (2, 2, 10), (2, 2, 2, 5), (92,)]:
            group = Group(orders)
            for places in (2, 3, 7):
                system = group.system(random, places)
                alphabet = "".join(random.sample(ALL, group.size))
                text = self.told(system, alphabet)
                self.gives(text, text_of_system, system=system, alphabet=alphabet)
                self.gives(system, system_of_text, alphabet=alphabet, text=text)

    def test_ordinary_ones(self):
        system = ((3,), [[1, 2, 0], [0, 1, 2], [2, 1, 0]], 2)
        self.gives("3\ncab\nabc\ncba\ntotal: 2\n", text_of_system, system=system, alphabet="abc")
        self.gives(system, system_of_text, alphabet="abc", text="3\ncab\nabc\ncba\ntotal: 2\n")
        long = ((10,), [list(range(10))] * 2, 9)
        self.gives("10\n0123456789\n0123456789\ntotal: 9\n", text_of_system, system=long, alphabet="0123456789")

    def test_members_are_not_signs(self):
        system = ((4,), [[1, 2, 3, 0], [2, 0, 3, 1]], 0)
        self.gives("4\ndabc\nbdac\ntotal: 0\n", text_of_system, system=system, alphabet="abcd")
        self.gives(system, system_of_text, alphabet="abcd", text="4\ndabc\nbdac\ntotal: 0\n")

    def test_the_whole_limit(self):
        system = Group((2, 2, 10)).system(Random(1), 40)
        with self.within_seconds():
            text = self.told(system, ALL[:40])
            self.gives(text, text_of_system, system=system, alphabet=ALL[:40])
            self.gives(system, system_of_text, alphabet=ALL[:40], text=text)

    def test_errors(self):
        alphabets = NO_STRINGS + BAD_SIGNS + ["", "a", "ab", "abcd", ALL]
        self.refuses(text_of_system, {"system": THREE, "alphabet": "abc"}, [
            ("system", InvalidSystem, wrong_systems()), ("alphabet", InvalidText, alphabets)])
        self.refuses(system_of_text, {"alphabet": "abc", "text": "3\nabc\nabc\ntotal: 0\n"}, [
            ("alphabet", InvalidText, NO_STRINGS + BAD_SIGNS + [""]), ("text", InvalidText, strange())])

    def test_no_such_system(self):
        for text in NO_STRINGS + [
            "", "\n", "\n\n\n\n", "3", "3\n", "total: 0\n", "3\ntotal: 0\n",
            "3\nabc\nabc\ntotal: 0", "3\nabc\nabc\ntotal: 0\n\n", "\n3\nabc\nabc\ntotal: 0\n", "3\nabc\nabc\ntotal: 0\n ",
            "3\nabc\nabc\ntotal: 0\nx", "3\nabc\nabc\ntotal: 0\n3\nabc\nabc\ntotal: 0\n", "3\nabc\nabc\n\ntotal: 0\n",
            "3\n\nabc\nabc\ntotal: 0\n", "3 abc abc total: 0\n", "3,abc,abc,total: 0\n",
            lines("3", "abc", "total: 0"), lines("3", "abc", "abc"), lines("abc", "abc", "total: 0"),
            lines("abc", "abc", "3", "total: 0"), lines("total: 0", "abc", "abc", "3"), lines("3", "total: 0", "abc", "abc"),
            lines("3", "abc", "total: 0", "abc"), lines("3", "abc", "abc", "total: 0", "total: 0"),
            lines("3", "3", "abc", "abc", "total: 0"),
            *[lines(orders, "abc", "abc", "total: 0") for orders in [
                "", " 3", "3 ", "03", "+3", "-3", "3,", ",3", "3,1", "1,3", "1", "0", "2", "4", "6", "2,2", "3.0", "3_", "1_1",
                "(3,)", "0x3", "3,0", "a", "33", "3,,", "3\t", "9" * 5000, "3" + "0" * 5000, "0" * 5000 + "3", "3,3"]],
            *[lines("3", place, "abc", "total: 0") for place in [
                "", "ab", "abca", "aba", "abd", "ABC", " abc", "abc ", "a,b,c", "012", "abcabc", "ab:", "ab "]],
            *[lines("3", "abc", place, "total: 0") for place in ["", "ab", "abca", "acc", "xyz"]],
            *[lines("3", "abc", "abc", total) for total in [
                "total: ", "total:", "total", "total: 3", "total: -1", "total: 00", "total: 01", "total: +0", "total: -0",
                "total:0", "total:  0", "total: 0 ", " total: 0", "Total: 0", "total; 0", "0", "total: a", "total: 0.0",
                "total: 10", "total: " + "9" * 5000, "total: " + "0" * 5000, "total: 0,0", "total: 0_0", "total: 0\t"]],
        ]:
            self.raises(InvalidText, text, system_of_text, alphabet="abc", text=text)

    def test_noughts_ahead(self):
        signs = "0123456789"
        good = lines("2,5", signs, signs, "total: 3")
        self.gives(((2, 5), [list(range(10))] * 2, 3), system_of_text, alphabet=signs, text=good)
        for orders, total in [("02,5", "3"), ("2,05", "3"), ("2,5", "03"), ("2,5", "00"), ("010", "3"), ("10", "09")]:
            text = lines(orders, signs, signs, "total: " + total)
            self.raises(InvalidText, text, system_of_text, alphabet=signs, text=text)

    def test_another_size(self):
        text = lines("3", "abc", "abc", "total: 0")
        for alphabet in ["ab", "abcd", "a", "abd", "xyz", "abcdefghij"]:
            self.raises(InvalidText, text, system_of_text, alphabet=alphabet, text=text)
        ten = lines("10", "0123456789", "0123456789", "total: 10")
        self.raises(InvalidText, ten, system_of_text, alphabet="0123456789", text=ten)
        one = lines("1", "a", "a", "total: 0")
        self.raises(InvalidText, one, system_of_text, alphabet="a", text=one)

    def test_any_text_is_read_back_alone(self):
        """A text changed at one character is no text, or that of another system."""
        system, alphabet = ((2, 2), [[0, 1, 2, 3], [2, 3, 0, 1]], 1), "0123"
        text = self.told(system, alphabet)
        for at in range(len(text)):
            for character in ["", " ", "\n", "\t", "0", "1", "2", "3", "4", ",", ":", "+", "a", "00"]:
                other = text[:at] + character + text[at + 1:]
                try:
                    found = system_of_text(alphabet, other)
                except InvalidText as error:
                    self.assertIs(error.value, other)
                else:
                    self.assertEqual(self.told(found, alphabet), other)


if __name__ == "__main__":
    unittest.main()
