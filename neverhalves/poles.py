"""A quick way to see that a sum is none by other letters: at some spot it would be divided by 0.

All is worked out modulo a prime. At a spot where the sum put for a letter becomes 0, and is
divided by, what comes is no sum if it does not become 0 itself. Where this does not show,
nothing is said.
"""
from neverhalves.terms import PRIME, lines_of, number_for, residue_inverse, residue_power

# How often a spot is looked for: one in two tries finds none where a square is wanted.
TURNS = 4


def inverses(numbers):
    """The list of what makes 1 of each number but 0 of a list, modulo the prime."""
    ahead = [1]
    for number in numbers:
        ahead.append(ahead[-1] * number % PRIME)
    # One inverse is enough for all of them.
    back = residue_inverse(ahead.pop())
    found = []
    for number, product in zip(numbers[::-1], ahead[::-1]):
        found.append(back * product % PRIME)
        back = back * number % PRIME
    return found[::-1]


def residue_of_term(powers, coefficient, numbers, backs):
    """A term for some numbers, of which the inverses are told, too, modulo the prime."""
    for power, number, inverse in zip(powers, numbers, backs):
        if power > 0:
            coefficient = coefficient * (number if power == 1 else residue_power(number, power)) % PRIME
        elif power < 0:
            coefficient = coefficient * (inverse if power == -1 else residue_power(inverse, -power)) % PRIME
    return coefficient % PRIME


def residue_of_sum(told, numbers, backs):
    """A sum for some numbers, of which the inverses are told, too, modulo the prime."""
    return sum([residue_of_term(powers, own, numbers, backs) for powers, own in told]) % PRIME


def flat_letter(told):
    """The tuple (letter, difference) of the letter that has two powers alone in a sum, and the
    least difference of these; None if there is no such letter."""
    found = None
    for at, line in enumerate(lines_of(told)):
        low, high = min(line), max(line)
        if low < high and line.count(low) + line.count(high) == len(line):
            if found is None or high - low < found[1]:
                found = at, high - low
    return found


def root_of(number, times):
    """What makes a number but 0, to a power from 1 on, modulo the prime; None if that is not found."""
    half = PRIME // 2
    sign = 1
    # Each number or its negative one is a square, and the squares are as many as a prime tells.
    if residue_power(number, half) != 1:
        if times & 1 == 0:
            return None
        number, sign = -number % PRIME, -1
    exponent = 1
    while exponent % times:
        exponent += half
    return sign * residue_power(number, exponent // times) % PRIME


def spot_at(told, letter, more):
    """A list of numbers for all letters at which a sum with such a flat letter is 0; None if not found."""
    at, times = letter
    numbers = [number_for(place + more) for place in range(len(told[0][0]))]
    backs = inverses(numbers)
    least = min([powers[at] for powers, _ in told])
    numbers[at] = backs[at] = 1
    low = residue_of_sum([term for term in told if term[0][at] == least], numbers, backs)
    high = residue_of_sum([term for term in told if term[0][at] != least], numbers, backs)
    if not low or not high:
        return None
    numbers[at] = -low * residue_inverse(high) % PRIME
    if times > 1:
        numbers[at] = root_of(numbers[at], times)
    return None if numbers[at] is None else numbers


def spot_of(told, letter):
    """A list as `spot_at` tells, looked for a few times; None if not found."""
    for turn in range(TURNS):
        numbers = spot_at(told, letter, turn * len(told[0][0]))
        if numbers is not None:
            return numbers
    return None


def slope_at(told, at):
    """What a sum becomes, but for the letter itself, by how much a letter is greater than at a spot."""
    return [(powers, own * powers[at]) for powers, own in told if powers[at]]


def orders_at(others, at, numbers):
    """What sums begin with around a spot where a letter is a bit greater: the tuple of the
    list of the powers of that bit, 0 or 1, and the list of its factors; None if not found."""
    backs = inverses(numbers)
    orders, leads = [], []
    for told in others:
        lead = residue_of_sum(told, numbers, backs)
        orders.append(0 if lead else 1)
        if not lead:
            lead = residue_of_sum(slope_at(told, at), numbers, backs) * backs[at] % PRIME
        leads.append(lead)
    if 0 in leads:
        return None
    return orders, leads


def pole_by(told, others, place):
    """True if it shows that what comes of a sum is divided by 0 where the sum put for a letter is 0."""
    letter = flat_letter(others[place])
    numbers = None if letter is None else spot_of(others[place], letter)
    begun = None if numbers is None else orders_at(others, letter[0], numbers)
    if begun is None:
        return False
    orders, leads = begun
    depths = [sum([power for power, order in zip(powers, orders) if order]) for powers, _ in told]
    least = min(depths)
    if least >= 0:
        return False
    backs = inverses(leads)
    return residue_of_sum([term for term, depth in zip(told, depths) if depth == least], leads, backs) != 0


def shows_pole(told, others):
    """True if it shows that no sum comes if sums, of as many letters, are put for the letters of a sum."""
    for place, line in enumerate(lines_of(told)):
        if min(line) < 0 and len(others[place]) > 1 and pole_by(told, others, place):
            return True
    return False
