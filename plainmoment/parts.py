"""The least parts of a lot: those that are enough, while no proper part of them is."""

from itertools import combinations


def least_parts(items, is_enough):
    """The list of the least parts of unlike items that are enough, as tuples, by size, then by the places of items."""
    lot = list(items)
    least = []
    for size in range(len(lot) + 1):
        for part in combinations(lot, size):
            if any([all([item in part for item in other]) for other in least]):
                continue
            if is_enough(part):
                least.append(part)
    return least
