"""The pieces of a hand: stretches of it put otherwise, its words, and the numbers that they write."""

from rowblade.signs import FIGURES, made_of
from rowblade.stretches import NOWHERE, greatest_ends, stretch

MOST_FIGURES = 60


def first_swapped(hand, one, words):
    place = stretch(one, hand)
    if place is None:
        return hand
    return hand[:place[0]] + words + hand[place[1]:]


# The ends are looked for once, of the hand as it was, so that a long hand with many stretches takes no long time.
def every_swapped(hand, one, words):
    ends = greatest_ends(one, hand)
    parts = []
    kept_to = 0
    place = 0
    while place < len(ends):
        if ends[place] == NOWHERE:
            place += 1
        else:
            parts.append(hand[kept_to:place] + words)
            kept_to = ends[place]
            place = kept_to
    return "".join(parts) + hand[kept_to:]


def words_of(hand):
    return [word for word in hand.split(" ") if word != ""]


# The word of this number, counted from 1, or None.
def word_of(hand, number):
    words = words_of(hand)
    if number > len(words):
        return None
    return words[number - 1]


# The number that a word writes, or None.
def number_of(word):
    figures = word[1:] if word.startswith("-") else word
    if figures == "" or len(figures) > MOST_FIGURES or not made_of(figures, FIGURES):
        return None
    return int(word)
