"""Cuts a text's bytes into words, numbers and signs."""

from patchtexts.errors import Fault
from patchtexts.errors import NO_WORD

LETTERS = "abcdefghijklmnopqrstuvwxyz"
DIGITS = "0123456789"
SIGNS = "{};"
BLANKS = " \n"
NOT_MEANT = "?"
MOST_LETTERS = 6
MOST_DIGITS = 4


class Word:
    """A word, number or sign as it is written, and its place; the text's end is written as nothing."""

    def __init__(self, written, place):
        self.written = written
        self.place = place


def as_signs(text):
    """The bytes as one Python text, with NOT_MEANT for each byte that stands for nothing."""
    meant = {}
    for sign in LETTERS + DIGITS + SIGNS + BLANKS:
        meant[ord(sign)] = sign
    return "".join([meant.get(byte, NOT_MEANT) for byte in text])


def run_end(signs, place, wanted):
    """Where the run of wanted signs ends that begins at the place."""
    end = place
    while end < len(signs) and signs[end] in wanted:
        end += 1
    return end


def letters_end(signs, place):
    end = run_end(signs, place, LETTERS)
    if end - place > MOST_LETTERS:
        raise Fault(NO_WORD, place)
    return end


def digits_end(signs, place):
    end = run_end(signs, place, DIGITS)
    length = end - place
    if length > MOST_DIGITS:
        raise Fault(NO_WORD, place)
    if length > 1 and signs[place] == "0":
        raise Fault(NO_WORD, place)
    return end


def word_end(signs, place):
    """Where the word, number or sign ends that begins at the place."""
    sign = signs[place]
    if sign in LETTERS:
        return letters_end(signs, place)
    if sign in DIGITS:
        return digits_end(signs, place)
    if sign in SIGNS:
        return place + 1
    raise Fault(NO_WORD, place)


def cut_into_words(text):
    """The text's words in their order, and its end as the last one."""
    signs = as_signs(text)
    words = []
    place = 0
    while place < len(signs):
        if signs[place] in BLANKS:
            place += 1
        else:
            end = word_end(signs, place)
            words.append(Word(signs[place:end], place))
            place = end
    words.append(Word("", len(signs)))
    return words
