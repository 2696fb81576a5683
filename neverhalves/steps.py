"""Sums told by the letters of the hand one swap away, one swap after the other.

A swap exchanges one letter for two products, added, divided by a new letter. So the terms
are taken by the powers of that letter: where these are below 0, they have to be a multiple
of both products, added, to that power. The powers of the terms are packed, as in terms.py.
"""
from math import comb


def key_of(entries, form):
    """What packs the product of all letters to some powers."""
    return sum([entry << shift for entry, shift in zip(entries, form[2])])


def groups_at(terms, place, form):
    """A dict of the terms by the powers of a letter, each without this letter."""
    offset, mask, shifts, half = form
    shift = shifts[place]
    groups = {}
    for key, coefficient in terms.items():
        power = (((key + offset) >> shift) & mask) - half
        groups.setdefault(power, {})[key - (power << shift)] = coefficient
    return groups


def lines_along(group, column, form):
    """A dict of the lines of some terms: by a key, the dict of coefficients of the terms that
    come of it times so many columns, by this number; the column has an entry but 0."""
    offset, mask, shifts, half = form
    at = 0
    while not column[at]:
        at += 1
    shift, entry = shifts[at], column[at]
    step = key_of(column, form)
    lines = {}
    for key, coefficient in group.items():
        index = ((((key + offset) >> shift) & mask) - half) // entry
        lines.setdefault(key - index * step, {})[index] = coefficient
    return lines


def line_over(line, times):
    """The list of the coefficients of a line divided so many times by 1 and the next term, None if a rest is left."""
    if len(line) <= times:
        return None
    worths = [line.get(index, 0) for index in range(min(line), max(line) + 1)]
    for _ in range(times):
        quotients = []
        ahead = 0
        for worth in worths:
            ahead = worth - ahead
            quotients.append(ahead)
        if quotients.pop():
            return None
        worths = quotients
    return worths


def halved(group, times):
    """Terms with their coefficients divided so many times by 2, None if a rest is left."""
    if any([coefficient & ((1 << times) - 1) for coefficient in group.values()]):
        return None
    return {key: group[key] >> times for key in group}


def group_over(group, column, form, times):
    """Terms divided so many times by both products of a column, added; None if that is no sum."""
    if not any(column):
        return halved(group, times)
    step = key_of(column, form)
    # The one product is the other one times the column.
    less = times * key_of([min(entry, 0) for entry in column], form)
    found = {}
    for start, line in lines_along(group, column, form).items():
        worths = line_over(line, times)
        if worths is None:
            return None
        key = start + min(line) * step + less
        for worth in worths:
            if worth:
                found[key] = worth
            key += step
    return found


def group_times(group, column, form, times):
    """Terms times both products of a column, added, to a power from 0 on."""
    high = key_of([max(entry, 0) for entry in column], form)
    low = key_of([max(-entry, 0) for entry in column], form)
    spread = [(at * high + (times - at) * low, comb(times, at)) for at in range(times + 1)]
    found = {}
    for key, coefficient in group.items():
        for step, factor in spread:
            found[key + step] = found.get(key + step, 0) + coefficient * factor
    return {key: found[key] for key in found if found[key]}


def stepped(terms, place, column, form):
    """Packed terms told by the letters behind a swap at a place with a column; None if that is no sum."""
    result = {}
    unit = 1 << form[2][place]
    for power, group in groups_at(terms, place, form).items():
        if power < 0:
            group = group_over(group, column, form, -power)
            if group is None:
                return None
        elif power > 0:
            group = group_times(group, column, form, power)
        for key, coefficient in group.items():
            result[key - power * unit] = coefficient
    return result


def is_stepped(terms, place, column, form):
    """True if packed terms are a sum by the letters behind a swap at a place with a column."""
    for power, group in groups_at(terms, place, form).items():
        if power < 0 and group_over(group, column, form, -power) is None:
            return False
    return True
