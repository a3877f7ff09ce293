"""Archives: the files of several texts one behind another, whose copies may reach into the texts ahead."""

from itertools import permutations

from leastfile.basics import END, check_text, check_texts, is_bits, last_letters, letters_put
from leastfile.copying import prices_of, steps_of, sums_to_end
from leastfile.errors import BadBits, BadTexts, NoBits, TooFew
from leastfile.readers import bits_due, commands_coming
from leastfile.shortest import shortest_behind

MOST_TEXTS = 6


def least_behind(coding, before, text):
    """The least number of bits of the words for a text and its "end" if other letters stand ahead of it."""
    check_text(coding, before)
    check_text(coding, text)
    return _least_behind(coding, last_letters(before, coding.window), text)


def least_archive(coding, texts):
    """The least number of bits of an archive of texts in their order."""
    check_texts(coding, texts)
    return sum([_least_behind(coding, before, text) for before, text in _with_letters_ahead(coding, texts)])


def archive(coding, texts):
    """The least of the archives with the least number of bits."""
    check_texts(coding, texts)
    return "".join([shortest_behind(coding, before, text) for before, text in _with_letters_ahead(coding, texts)])


def texts_of(coding, bits):
    """The list of the texts of an archive."""
    if not is_bits(bits):
        raise NoBits()
    words = coding.words
    texts = []
    # The number of the letters of the texts that have ended, all letters, and the bits of a word that has begun.
    ended = 0
    letters = []
    begun = ""
    for at, bit in enumerate(bits):
        begun += bit
        coming = commands_coming(words, begun, len(letters))
        if not coming:
            raise BadBits(at)
        if words[coming[0]] == begun:
            letters.extend(letters_put(letters, coming[0]))
            begun = ""
            if coming[0] == END:
                texts.append("".join(letters[ended:]))
                ended = len(letters)
    if begun != "" or ended < len(letters):
        raise TooFew(bits_due(words, begun, len(letters)))
    return texts


def best_order(coding, texts):
    """The least number of bits of an archive of texts in any order, and the least tuple of numbers that has it."""
    if not isinstance(texts, list) or not 1 <= len(texts) <= MOST_TEXTS:
        raise BadTexts()
    check_texts(coding, texts)
    sums = {}
    best = None
    for order in permutations(range(len(texts))):
        total = 0
        before = ""
        for number in order:
            if (before, number) not in sums:
                sums[(before, number)] = _least_behind(coding, before, texts[number])
            total += sums[(before, number)]
            before = last_letters(before + texts[number], coding.window)
        # The orders come ascending, so that of equals the first one is the least.
        if best is None or total < best[0]:
            best = (total, order)
    return best


def _with_letters_ahead(coding, texts):
    """A list of pairs: for each text the last letters ahead of it, as many as a copy can reach, and the text."""
    pairs = []
    before = ""
    for text in texts:
        pairs.append((before, text))
        before = last_letters(before + text, coding.window)
    return pairs


def _least_behind(coding, before, text):
    """The number of least_behind, for arguments that are right."""
    return sums_to_end(steps_of(prices_of(coding), text, before))[0] + coding.price(END)
