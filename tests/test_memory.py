"""Point 9: the words of flash, ram and places."""

import unittest

from boardheld.memory import Memory

EDGES = (0, 511, 512, 767, 768, 773, 774, 1023)


class WordAt(unittest.TestCase):
    def told(self, image):
        memory = Memory(image)
        return [memory.word_at(address) for address in EDGES]

    def test_edges_with_no_words(self):
        self.assertEqual(self.told([]), [65535, 65535, 0, 0, 0, 0, None, None])

    def test_edges_with_some_words(self):
        self.assertEqual(self.told([7, 8, 9]), [7, 65535, 0, 0, 0, 0, None, None])

    def test_edges_with_all_words(self):
        self.assertEqual(self.told(list(range(1, 513))), [1, 512, 0, 0, 0, 0, None, None])

    def test_flash_begins_with_the_image(self):
        memory = Memory([0, 65535, 300])
        self.assertEqual([memory.word_at(address) for address in range(5)], [0, 65535, 300, 65535, 65535])

    def test_rest_of_flash_is_ones(self):
        memory = Memory([0] * 511)
        self.assertEqual(memory.word_at(510), 0)
        self.assertEqual(memory.word_at(511), 65535)

    def test_each_part_has_its_addresses(self):
        memory = Memory([5])
        words = [memory.word_at(address) for address in range(1024)]
        self.assertEqual(words, [5] + [65535] * 511 + [0] * 262 + [None] * 250)

    def test_nothing_beyond_both_ends(self):
        memory = Memory([5])
        for address in (-1, -774, -775, 1024, 66558):
            self.assertIsNone(memory.word_at(address), address)

    def test_words_are_whole_numbers(self):
        memory = Memory([5])
        for address in range(774):
            self.assertIs(type(memory.word_at(address)), int)

    def test_image_is_neither_changed_nor_kept(self):
        image = [1, 2, 3]
        memory = Memory(image)
        self.assertEqual(image, [1, 2, 3])
        image[0] = 99
        image.append(4)
        self.assertEqual([memory.word_at(address) for address in range(4)], [1, 2, 3, 65535])

    def test_two_memories_stand_apart(self):
        one = Memory([1])
        other = Memory([2])
        self.assertEqual((one.word_at(0), other.word_at(0)), (1, 2))

    def test_asking_changes_nothing(self):
        memory = Memory([1, 2])
        for _ in range(2):
            self.assertEqual([memory.word_at(address) for address in (0, 1, 2, 512, 774)], [1, 2, 65535, 0, None])

    def test_argument_by_name(self):
        self.assertEqual(Memory([1]).word_at(address=0), 1)


if __name__ == "__main__":
    unittest.main()
