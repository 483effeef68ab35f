"""Which stretch of a row a pattern finds."""

from rowblade.patterns import may_be_left_out, may_come_again

NOWHERE = -1


def stretch(one, row, start=0):
    ends = greatest_ends(one, row)
    for begin in range(start, len(ends)):
        if ends[begin] != NOWHERE:
            return (begin, ends[begin])
    return None


def found(one, row):
    return stretch(one, row) is not None


# For each place, the greatest end of the stretches that begin there, or NOWHERE.
# Going from the last item to the first, each place is looked at once for each item,
# so that no pattern takes long, however many ways there are to share out a row.
def greatest_ends(one, row):
    ends = ends_behind_items(row, one[2])
    for item in reversed(one[1]):
        ends = ends_with_item(item, row, ends)
    # With front, the only beginning is place 0.
    return ends[:1] if one[0] else ends


def ends_behind_items(row, back):
    if back:
        return [NOWHERE] * len(row) + [len(row)]
    return list(range(len(row) + 1))


# From the greatest ends of what stands behind an item, those of it with the item ahead.
def ends_with_item(item, row, behind):
    signs = item[0]
    others = item[1]
    again = may_come_again(item)
    ends = list(behind) if may_be_left_out(item) else [NOWHERE] * len(behind)
    for place in range(len(row) - 1, -1, -1):
        if (row[place] in signs) != others:
            end = behind[place + 1]
            if again and ends[place + 1] > end:
                end = ends[place + 1]
            if end > ends[place]:
                ends[place] = end
    return ends
