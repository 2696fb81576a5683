"""Sums worked on without checks, as tuples of tuples (powers, coefficient).

Where many terms meet, the powers of a term are packed into one integer, with so many bits
for each letter: such integers add as the powers do, and they ascend as the powers do.
"""
from heapq import heapify, heappop, heappush
from math import gcd

# Divisions are tried modulo this prime first: a rest that is left there is left at all. The half
# of the number ahead of it is a prime, too, so that roots modulo it are found by powers.
PRIME = 1152921504606843299


def letter_of(at, many):
    """The sum that is one letter of so many."""
    return ((tuple([1 if other == at else 0 for other in range(many)]), 1),)


def lines_of(told):
    """For each letter of a sum but 0 the tuple of its powers, term by term."""
    rows = [powers for powers, _ in told]
    return list(zip(*rows))


def least_of(told):
    """The least power of each letter in a sum but 0."""
    return tuple([min(line) for line in lines_of(told)])


def greatest_of(told):
    """The greatest power of each letter in a sum but 0."""
    return tuple([max(line) for line in lines_of(told)])


def moved(told, powers, sign):
    """A sum with some powers added to those of each term, or, with the sign -1, taken from them."""
    return tuple([
        (tuple([one + sign * other for one, other in zip(own, powers)]), coefficient)
        for own, coefficient in told
    ])


def sum_of_terms(terms):
    """The sum that a dict of coefficients by powers stands for."""
    return tuple(sorted([(powers, terms[powers]) for powers in terms if terms[powers]]))


def added(one, other):
    """The sum of two sums."""
    terms = {powers: coefficient for powers, coefficient in one}
    for powers, coefficient in other:
        terms[powers] = terms.get(powers, 0) + coefficient
    return sum_of_terms(terms)


def with_powers(told, change):
    """A sum with the powers of each term changed by a function; terms that are alike then are added up."""
    terms = {}
    for powers, coefficient in told:
        key = change(powers)
        terms[key] = terms.get(key, 0) + coefficient
    return sum_of_terms(terms)


def without_letters(told, places):
    """A sum with 1 put for the letters of some indexes."""
    gone = {place: True for place in places}
    return with_powers(
        told, lambda powers: tuple([0 if at in gone else power for at, power in enumerate(powers)])
    )


def reach_of(told):
    """How far from 0 the powers of a sum go."""
    return max([max([abs(power) for power in powers]) for powers, _ in told])


def width_for(reach):
    """The bits that each letter needs for powers that go so far from 0."""
    return reach.bit_length() + 1


def packed(told, bits):
    """A sum as a dict of coefficients by packed powers."""
    terms = {}
    for powers, coefficient in told:
        key = 0
        for power in powers:
            key = (key << bits) + power
        terms[key] = coefficient
    return terms


def unpacker(many, bits):
    """What `powers_at` needs to know of so many letters: the offset, the mask, the shifts, the half."""
    half = 1 << (bits - 1)
    shifts = [bits * at for at in reversed(range(many))]
    return sum([half << shift for shift in shifts]), (1 << bits) - 1, shifts, half


def powers_at(key, form):
    """The powers that a key packs, by what `unpacker` tells."""
    offset, mask, shifts, half = form
    full = key + offset
    return tuple([((full >> shift) & mask) - half for shift in shifts])


def unpacked(terms, many, bits):
    """The sum of so many letters that a dict of coefficients by packed powers stands for."""
    form = unpacker(many, bits)
    return tuple([(powers_at(key, form), terms[key]) for key in sorted(terms)])


def packed_plus(one, other):
    """The sum of two packed sums."""
    terms = {key: one[key] for key in one}
    for key, coefficient in other.items():
        terms[key] = terms.get(key, 0) + coefficient
    return {key: terms[key] for key in terms if terms[key]}


def packed_times(one, other):
    """The product of two packed sums."""
    if len(one) > len(other):
        one, other = other, one
    pairs = list(other.items())
    terms = {}
    for key, coefficient in one.items():
        for further, factor in pairs:
            at = key + further
            terms[at] = terms.get(at, 0) + coefficient * factor
    return {key: terms[key] for key in terms if terms[key]}


def whole_power(base, times):
    """An integer to a power from 0 on."""
    result = 1
    while times:
        if times & 1:
            result = result * base
        base = base * base
        times = times >> 1
    return result


def packed_by_power(terms, factor, times):
    """A packed sum times another one to a power from 0 on."""
    if len(factor) == 1:
        key = list(factor)[0]
        return packed_times(terms, {key * times: whole_power(factor[key], times)})
    # A few short steps cost less than the power of the factor, which has many more terms.
    for _ in range(times):
        terms = packed_times(terms, factor)
    return terms


def product_of(factors, many):
    """The product of a list of (sum but 0, power from 0 on), 1 if there are none."""
    bits = width_for(sum([reach_of(told) * times for told, times in factors]))
    terms = {0: 1}
    for told, times in factors:
        terms = packed_by_power(terms, packed(told, bits), times)
    return unpacked(terms, many, bits)


def coefficients_divided(told, coefficient):
    """A sum with all coefficients divided, None if that leaves a rest."""
    terms = []
    for powers, own in told:
        quotient, rest = divmod(own, coefficient)
        if rest:
            return None
        terms.append((powers, quotient))
    return tuple(terms)


def quotient_of(one, other):
    """The sum that, times the other one, which is not 0, is the one; None if there is none."""
    if not one:
        return ()
    if len(other) == 1:
        return coefficients_divided(moved(one, other[0][0], -1), other[0][1])
    # Least and greatest powers add up in products, so these are the quotient's own ones.
    lows = [mine - its for mine, its in zip(least_of(one), least_of(other))]
    highs = [mine - its for mine, its in zip(greatest_of(one), greatest_of(other))]
    if any([low > high for low, high in zip(lows, highs)]):
        return None
    if not may_divide(one, other):
        return None
    bits = width_for(reach_of(one) + reach_of(other))
    bounds = (lows, highs, unpacker(len(lows), bits))
    terms = packed_quotient(packed(one, bits), packed(other, bits), bounds)
    if terms is None:
        return None
    return unpacked(terms, len(lows), bits)


def packed_quotient(one, other, bounds):
    """The quotient of packed sums, None if there is none with powers within the bounds."""
    lead = max(other)
    top = other[lead]
    tail = [(key - lead, other[key]) for key in other if key != lead]
    rest = {key: one[key] for key in one}
    waiting = [-key for key in rest]
    heapify(waiting)
    terms = {}
    while waiting:
        key = -heappop(waiting)
        coefficient = rest.pop(key)
        if not coefficient:
            continue
        quotient, left = divmod(coefficient, top)
        if left or not lies_within(key - lead, bounds):
            return None
        terms[key - lead] = quotient
        for step, factor in tail:
            at = key + step
            if at not in rest:
                rest[at] = 0
                heappush(waiting, -at)
            rest[at] -= quotient * factor
    return terms


def lies_within(key, bounds):
    """Whether the powers that a key packs are between the bounds, these included."""
    lows, highs, form = bounds
    powers = powers_at(key, form)
    return all([low <= power <= high for low, power, high in zip(lows, powers, highs)])


def residue_power(base, times):
    """A power from 0 on modulo the prime."""
    result = 1
    while times:
        if times & 1:
            result = result * base % PRIME
        base = base * base % PRIME
        times = times >> 1
    return result


def may_divide(one, other):
    """False if one sum surely is no multiple of another one of at least two terms.

    A division that does not come out may take very many steps until that shows. So all
    letters but one get fixed numbers first, modulo a prime: a multiple stays one by that.
    Each letter is tried, since a part of the other sum that has not the letter goes unseen.
    """
    kept = [at for at, line in enumerate(lines_of(other)) if min(line) < max(line)]
    mine, its = residues(one, kept), residues(other, kept)
    return all([is_residue_multiple(mine[at], its[at]) for at in kept])


def residues(told, kept):
    """For each of some letters the coefficients by its powers, with numbers for all others."""
    lines = lines_of(told)
    lows = [min(line) for line in lines]
    worths = [residues_of_powers(number_for(at), line) for at, line in enumerate(lines)]
    # A letter that is kept gets its number like all others, and is freed of it again.
    backs = {at: residues_of_powers(residue_inverse(number_for(at)), lines[at]) for at in kept}
    result = {at: [0] * (max(lines[at]) - lows[at] + 1) for at in kept}
    for powers, coefficient in told:
        full = coefficient
        for worth, power in zip(worths, powers):
            full = full * worth[power] % PRIME
        for at in kept:
            result[at][powers[at] - lows[at]] += full * backs[at][powers[at]]
    return {at: [total % PRIME for total in result[at]] for at in kept}


def number_for(at):
    """The number that is put for a letter where divisions are tried; any would do."""
    return 1000003 + 7919 * at


def residue_inverse(base):
    """What makes 1 of a number but 0 modulo the prime."""
    return residue_power(base, PRIME - 2)


def residues_of_powers(base, powers):
    """A dict of what a base comes to by powers, less the least one of them, modulo the prime."""
    least = min(powers)
    return {power: residue_power(base, power - least) for power in sorted(set(powers))}


def is_residue_multiple(one, other):
    """Whether a line of coefficients may be a multiple of another one, modulo the prime."""
    top = len(other) - 1
    if not other[top]:
        return True
    inverse = residue_inverse(other[top])
    steps = [(at - top, worth) for at, worth in enumerate(other) if worth and at < top]
    rest = list(one)
    for at in reversed(range(top, len(one))):
        quotient = rest[at] * inverse % PRIME
        if quotient:
            for step, worth in steps:
                rest[at + step] = (rest[at + step] - quotient * worth) % PRIME
    return not any(rest[:top])


def lifted(told):
    """The powers of a sum but 0 that are missing to 0, by letters, and its terms with these added."""
    missing = [max(-low, 0) for low in least_of(told)]
    return missing, moved(told, missing, 1)


def put_into(told, others, many):
    """What comes if sums but 0, of so many letters, are put for the letters of a sum; None if no sum."""
    if not told:
        return ()
    missing, terms = lifted(told)
    reaches = [power * reach_of(other) for power, other in zip(greatest_of(terms), others)]
    bits = width_for(sum(reaches))
    factors = [packed(other, bits) for other in others]
    result = unpacked(gathered(terms, factors, len(factors)), many, bits)
    for times, other in zip(missing, others):
        for _ in range(times):
            result = quotient_of(result, other)
            if result is None:
                return None
    return result


def value_of(told, numbers):
    """The value of a sum for integers but 0, as (top, bottom) in lowest terms."""
    if not told:
        return 0, 1
    missing, terms = lifted(told)
    top = gathered(terms, [{0: number} for number in numbers], len(numbers)).get(0, 0)
    bottom = 1
    for times, number in zip(missing, numbers):
        bottom = bottom * whole_power(number, times)
    common = gcd(top, bottom) if bottom > 0 else -gcd(top, bottom)
    return top // common, bottom // common


def gathered(terms, factors, many):
    """The packed sum that terms are if factors are put for the first so many letters.

    The terms are taken by the powers of the last letter, the greatest first, and what is
    gathered so far is multiplied on the way down: so no power is worked out twice.
    """
    if not many:
        return {0: terms[0][1]}
    groups = {}
    for powers, coefficient in terms:
        groups.setdefault(powers[many - 1], []).append((powers, coefficient))
    result = {}
    ahead = max(groups)
    for power in sorted(groups, reverse=True):
        result = packed_by_power(result, factors[many - 1], ahead - power)
        result = packed_plus(result, gathered(groups[power], factors, many - 1))
        ahead = power
    return packed_by_power(result, factors[many - 1], ahead)
