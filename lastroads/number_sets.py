"""Sets of places or roads as whole numbers: a number is a member if the bit of its value is set."""


def is_member(number_set, number):
    return (number_set >> number) & 1 == 1


def members(number_set):
    return [number for number in range(number_set.bit_length()) if is_member(number_set, number)]


def set_of(numbers):
    return sum([1 << number for number in numbers])


def size(number_set):
    return len(members(number_set))


def subsets(numbers):
    found = [0]
    for number in numbers:
        found = found + [smaller + (1 << number) for smaller in found]
    return found
