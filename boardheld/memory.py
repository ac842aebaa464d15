"""The words of a board: flash, ram and places."""

# Each is the first address behind that part; ram begins at FLASH_END.
FLASH_END = 512
PLACES_END = 774

WORD_MOST = 65535
ERASED = 65535


class Memory:
    """Flash that begins with an image, and ram and places, at first nought."""

    def __init__(self, image):
        erased = [ERASED] * (FLASH_END - len(image))
        nought = [0] * (PLACES_END - FLASH_END)
        self.words = list(image) + erased + nought

    def word_at(self, address):
        """The word at an address, None where there is none."""
        if 0 <= address < PLACES_END:
            return self.words[address]
        return None
