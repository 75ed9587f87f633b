"""Tableaux: the ways to put the numbers 1, 2, .. into a table that they rise along each row, down each column."""


def how_many_tableaux(rows, columns):
    """How many tableaux of so many rows and columns there are.

    As many as there are orders of the places, less those that put a place ahead of one right of it in its row,
    or below it in its column: 1 times 2 times .. of all places, divided for each place by how many places
    these are, and itself. The factors are told apart into primes, so that no number on the way is greater
    than the answer.
    """
    places = rows * columns
    often = [0, 0] + [1] * (places - 1)
    for row in range(rows):
        for column in range(columns):
            often[row + column + 1] -= 1
    answer = 1
    for number in range(places, 1, -1):
        factor = least_factor(number)
        if factor < number:
            often[factor] += often[number]
            often[number // factor] += often[number]
            often[number] = 0
    for number in range(2, places + 1):
        for _ in range(often[number]):
            answer *= number
    return answer


def least_factor(number):
    """The least number from 2 that divides number."""
    factor = 2
    while number % factor != 0:
        factor += 1
    return factor


def tableaux_by_falls(rows, columns):
    """By how many numbers have their next one in a lower row: how many tableaux have so many such numbers.

    Told number by number: states are by how far the rows are filled, and the row of the last number.
    """
    states = {((1,) + (0,) * (rows - 1), 0): {0: 1}}
    for _ in range(rows * columns - 1):
        further = {}
        for (filled, last), counts in states.items():
            for row in range(rows):
                if filled[row] < columns and (row == 0 or filled[row - 1] > filled[row]):
                    there = (filled[:row] + (filled[row] + 1,) + filled[row + 1:], row)
                    add_counts(further.setdefault(there, {}), counts, 1 if row > last else 0)
        states = further
    total = {}
    for counts in states.values():
        add_counts(total, counts, 0)
    return total


def add_counts(total, counts, more):
    """Adds to total what counts tell by number, each under a number by more greater."""
    for number, many in counts.items():
        total[number + more] = total.get(number + more, 0) + many
