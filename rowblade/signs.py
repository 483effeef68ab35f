"""The signs that texts are made of, and texts made of some of them alone."""

# All from the blank to ~ but the percent sign; letters come first, so that rows made up of signs are easy to read.
SIGNS = "abcdefghijklmnopqrstuvwxyzABCDEFGHIJKLMNOPQRSTUVWXYZ0123456789 !\"#$&'()*+,-./:;<=>?@[\\]^_`{|}~"
SMALL_LETTERS = "abcdefghijklmnopqrstuvwxyz"
FIGURES = "0123456789"


def made_of(text, signs):
    return all([sign in signs for sign in text])


# The beginning of a text, as far as it is made of these signs.
def beginning_of(text, signs):
    many = 0
    while many < len(text) and text[many] in signs:
        many += 1
    return text[:many]
