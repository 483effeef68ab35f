"""Texts cut into rows, and rows pasted to a text."""


def cut(text):
    rows = text.split("\n")
    # Nothing stands behind the last line feed of an ended text, nor in the empty one, and that is no row.
    if rows[-1] == "":
        return (rows[:-1], True)
    return (rows, False)


def pasted(rows, ended=True):
    if len(rows) == 0:
        return ""
    text = "\n".join(rows)
    # Without its line feed an empty last row would be lost.
    if ended or rows[-1] == "":
        return text + "\n"
    return text
