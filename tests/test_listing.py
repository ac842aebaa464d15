"""Points 5 to 8: images as texts; of point 10 the table of ops."""

import unittest

from boardheld.errors import NoText
from boardheld.listing import listed, row_of, typed

# Written out again from the document, so that a slip in the package's own table shows.
WITH_X = {
    "lit": 1, "get": 2, "put": 3, "add": 4, "sub": 5, "and": 6, "xor": 7, "getb": 8, "putb": 9,
    "go": 12, "ifz": 13, "ifn": 14, "call": 15, "let": 20,
}
WITHOUT_X = {
    "mark": 0, "tob": 10, "swap": 11, "ret": 16, "push": 17, "pop": 18, "sleep": 19, "back": 21, "half": 22,
}


class Rows(unittest.TestCase):
    """Point 5: the row of a word."""

    def test_table_has_all_ops(self):
        self.assertEqual(sorted([*WITH_X.values(), *WITHOUT_X.values()]), list(range(23)))

    def test_op_with_x(self):
        for name, op in WITH_X.items():
            for x in (0, 1, 7, 512, 1023):
                self.assertEqual(row_of(op * 1024 + x), f"{name} {x}")

    def test_op_without_x(self):
        for name, op in WITHOUT_X.items():
            self.assertEqual(row_of(op * 1024), name)

    def test_op_without_x_that_has_one(self):
        for name, op in WITHOUT_X.items():
            for x in (1, 7, 512, 1023):
                self.assertEqual(row_of(op * 1024 + x), f"word {op * 1024 + x}")

    def test_beyond_all_ops(self):
        for op in range(23, 64):
            for x in (0, 7, 1023):
                self.assertEqual(row_of(op * 1024 + x), f"word {op * 1024 + x}")

    def test_least_and_greatest(self):
        self.assertEqual(row_of(0), "mark")
        self.assertEqual(row_of(1), "word 1")
        self.assertEqual(row_of(23 * 1024 - 1), "word 23551")
        self.assertEqual(row_of(23 * 1024), "word 23552")
        self.assertEqual(row_of(65535), "word 65535")

    def test_argument_by_name(self):
        self.assertEqual(row_of(word=1029), "lit 5")


class Listed(unittest.TestCase):
    """Point 5: the text of an image."""

    def test_no_words(self):
        self.assertEqual(listed([]), "")

    def test_one_word(self):
        self.assertEqual(listed([1029]), "lit 5")

    def test_several_words(self):
        self.assertEqual(listed([1029, 3072 + 512, 0, 65535, 12288]), "lit 5\nput 512\nmark\nword 65535\ngo 0")

    def test_512_words(self):
        text = listed(list(range(1024, 1536)))
        self.assertEqual(text.split("\n"), [f"lit {x}" for x in range(512)])

    def test_image_is_not_changed(self):
        image = [1029, 0, 65535]
        listed(image)
        self.assertEqual(image, [1029, 0, 65535])

    def test_argument_by_name(self):
        self.assertEqual(listed(image=[0, 0]), "mark\nmark")


class Typed(unittest.TestCase):
    """Point 6: what a text lays and names."""

    def check(self, text, image, names):
        self.assertEqual(typed(text), (image, names))

    def test_rows_of_nothing(self):
        self.check("", [], {})
        self.check("\n\n", [], {})
        self.check("\nhalf\n\nback\n", [22528, 21504], {})

    def test_op_without_x(self):
        for name, op in WITHOUT_X.items():
            self.check(name, [op * 1024], {})

    def test_op_with_x_and_number(self):
        for name, op in WITH_X.items():
            for x in (0, 5, 1023):
                self.check(f"{name} {x}", [op * 1024 + x], {})

    def test_op_with_x_and_name(self):
        for name, op in WITH_X.items():
            self.check(f"tob\nhere:\n{name} here", [10240, op * 1024 + 1], {"here": 1})

    def test_word_and_number(self):
        for word in (0, 5, 1023, 1024, 10000, 65535):
            self.check(f"word {word}", [word], {})

    def test_word_and_name(self):
        self.check("keep 3\nhere:\nword here", [0, 0, 0, 3], {"here": 3})
        self.check("word last\nkeep 511\nlast:", [512] + [0] * 511, {"last": 512})

    def test_at(self):
        self.check("at 3", [65535] * 3, {})
        self.check("at 0\nhalf", [22528], {})
        self.check("half\nat 1\nhalf\nat 4\nhalf", [22528, 22528, 65535, 65535, 22528], {})
        self.check("at 512", [65535] * 512, {})

    def test_at_where_it_comes_lays_nothing(self):
        self.check("keep 512\nat 512\nat 512", [0] * 512, {})

    def test_keep(self):
        self.check("keep 3", [0, 0, 0], {})
        self.check("keep 0", [], {})
        self.check("half\nkeep 2\nhalf", [22528, 0, 0, 22528], {})
        self.check("keep 512\nkeep 0", [0] * 512, {})

    def test_name_takes_the_address_that_comes(self):
        self.check("one:\nhalf\ntwo:\nat 5\nthree:\nkeep 2\nfour:",
                   [22528] + [65535] * 4 + [0, 0], {"one": 0, "two": 1, "three": 5, "four": 7})

    def test_several_names_for_one_address(self):
        self.check("half\na:\nb:\nc:\ngo b\ngo c", [22528, 12289, 12289], {"a": 1, "b": 1, "c": 1})

    def test_name_ahead_of_behind_and_at_the_end_of_its_use(self):
        self.check("half\nhere:\ngo here", [22528, 12289], {"here": 1})
        self.check("go here\nhalf\nhere:\nhalf", [12290, 22528, 22528], {"here": 2})
        self.check("go here\nhalf\nhere:", [12290, 22528], {"here": 2})

    def test_name_used_several_times(self):
        self.check("get a\na:\nput a\nword a", [2049, 3073, 1], {"a": 1})

    def test_name_behind_512_words(self):
        self.check("lit end\nkeep 511\nend:", [1536] + [0] * 511, {"end": 512})

    def test_names_of_ops_and_other_heads(self):
        words = (*WITH_X, *WITHOUT_X, "word", "at", "keep")
        text = "half\n" + "\n".join([f"{word}:" for word in words])
        self.check(text, [22528], {word: 1 for word in words})
        for word in words:
            self.check(f"half\n{word}:\nlit {word}\nword {word}", [22528, 1025, 1], {word: 1})

    def test_names_of_one_and_of_eight_letters(self):
        self.check("a:\nz:\nabcdefgh:\nstuvwxyz:\ngo stuvwxyz", [12288],
                   {"a": 0, "z": 0, "abcdefgh": 0, "stuvwxyz": 0})

    def test_told_kinds(self):
        told = typed("a:\nword a")
        self.assertIs(type(told), tuple)
        self.assertEqual([type(part) for part in told], [list, dict])

    def test_argument_by_name(self):
        self.assertEqual(typed(text="half"), ([22528], {}))


class ThereAndBack(unittest.TestCase):
    """Point 7: an image's text is read to the image and no names."""

    def test_every_word(self):
        for first in range(0, 65536, 512):
            image = list(range(first, first + 512))
            self.assertEqual(typed(listed(image)), (image, {}))

    def test_no_words(self):
        self.assertEqual(typed(listed([])), ([], {}))

    def test_one_word(self):
        self.assertEqual(typed(listed([0])), ([0], {}))

    def test_two_calls_tell_their_own(self):
        text = "a:\nword a\nhalf"
        image, names = typed(text)
        image.append(7)
        image[0] = 9
        names["b"] = 2
        names["a"] = 5
        self.assertEqual(typed(text), ([0, 22528], {"a": 0}))
        self.assertEqual(typed(""), ([], {}))
        self.assertIsNot(typed("")[0], typed("")[0])
        self.assertIsNot(typed("")[1], typed("")[1])


class Refused(unittest.TestCase):
    """Point 8, and of point 6 what is no row."""

    def check(self, text, at):
        with self.assertRaises(NoText) as caught:
            typed(text)
        self.assertEqual(caught.exception.at, at, text)
        self.assertIs(type(caught.exception.at), int)

    def check_row(self, row):
        """That a row is none, whether it stands first or behind others."""
        self.check(row, 0)
        self.check(f"half\n\na:\n{row}\nhalf", 3)

    def test_unknown_heads(self):
        for row in ("nop", "halfs", "hal", "7", "words 1", "nop 1", "1 1", "mark:1", "a :", ":", "::", "a:b", "-"):
            self.check_row(row)

    def test_op_without_x_takes_none(self):
        for name in WITHOUT_X:
            self.check_row(f"{name} 0")
            self.check_row(f"{name} 7")
            self.check_row(f"{name} a")

    def test_op_with_x_wants_one(self):
        for name in WITH_X:
            self.check_row(name)
            self.check_row(f"{name} 1 2")
            self.check_row(f"{name} 1024")

    def test_other_heads_want_one_part(self):
        for head in ("word", "at", "keep"):
            self.check_row(head)
            self.check_row(f"{head} 9 9")

    def test_greatest_numbers(self):
        self.assertEqual(typed("lit 1023\nword 65535"), ([2047, 65535], {}))
        self.check("lit 1023\nlit 1024", 1)
        self.check("word 65535\nword 65536", 1)
        self.check("word 99999", 0)
        self.check("word 1\nlit 65535", 1)

    def test_numbers_that_are_none(self):
        for number in ("00", "01", "007", "00000", "100000", "000005", "-1", "+1", "1.0", "1_0", "0x1", "1a", "a1"):
            self.check_row(f"lit {number}")
            self.check_row(f"word {number}")
            self.check_row(f"keep {number}")
            # Ahead of all words, so that none of these could be refused as an address below.
            self.check(f"at {number}", 0)

    def test_very_many_figures(self):
        for head in ("lit", "word", "at", "keep"):
            self.check_row(f"{head} {'9' * 5000}")
            self.check(f"{head} {'0' * 5000}", 0)

    def test_blanks(self):
        for row in ("lit  5", " lit 5", "lit 5 ", " half", "half ", " ", "  ", "lit ", "word  7", "at  9", "keep  1",
                    "b: ", " b:", "b :"):
            self.check_row(row)

    def test_names_that_are_none(self):
        for name in ("abcdefghi", "A", "aB", "a1", "1", "a_b", "a-b", "a b", "", "ab."):
            self.check_row(f"{name}:")
        for name in ("abcdefghi", "A", "aB", "a1", "a_b", "a-b", "a:"):
            self.check_row(f"lit {name}")
            self.check_row(f"word {name}")

    def test_at_and_keep_take_no_names(self):
        self.check("a:\nat a", 1)
        self.check("a:\nkeep a", 1)

    def test_named_again(self):
        self.check("a:\na:", 1)
        self.check("a:\nhalf\nb:\na:\nlit 1024", 3)
        self.check("half:\nhalf\nhalf:", 2)

    def test_at_below_the_address_that_comes(self):
        self.check("half\nat 0", 1)
        self.check("keep 5\nat 4", 1)
        self.check("at 5\nat 4\nat 5", 1)
        self.assertEqual(typed("keep 5\nat 5"), ([0] * 5, {}))

    def test_more_than_512_words(self):
        for row in ("half", "lit 5", "lit a", "word 5", "word a", "keep 1", "keep 512", "keep 99999", "at 513"):
            self.check(f"a:\nkeep 512\n{row}", 2)
        for row in ("at 513", "at 1023", "at 1024", "keep 513", "keep 99999"):
            self.check(f"half\n{row}", 1)
        self.check("half\n" * 513, 512)
        self.assertEqual(typed("half\n" * 512), ([22528] * 512, {}))
        self.check("half\nkeep 512", 1)

    def test_name_that_stands_nowhere(self):
        self.check("lit a", 0)
        self.check("half\nword a", 1)
        self.check("a:\nlit a\nlit b\nword c", 2)
        self.check("half\ngo half", 1)
        self.check("lit a\nkeep 511", 0)

    def test_wrong_row_comes_ahead_of_missing_name(self):
        self.check("lit a\nnop", 1)
        self.check("lit a\nb:\nb:", 2)
        self.check("lit a\nat 0", 1)
        self.check("lit a\nkeep 512", 1)
        self.check("nop\nlit a", 0)
        self.check("lit a\nlit b\n\nlit 1024", 3)

    def test_first_wrong_row_is_told(self):
        self.check("half\nnop\na:\na:\nat 0", 1)
        self.check("half\nat 0\nnop", 1)
        self.check("a:\na:\nnop", 1)
        self.check("keep 513\nnop", 0)

    def test_refused_changes_nothing(self):
        self.check("a:\nlit a\nnop", 2)
        self.assertEqual(typed("half"), ([22528], {}))
        self.check("lit a", 0)


if __name__ == "__main__":
    unittest.main()
