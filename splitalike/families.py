"""Which of several readers are alike, any two of them."""

from itertools import combinations

from splitalike.choices import is_part
from splitalike.errors import TooMany
from splitalike.parting import parted
from splitalike.readers import MOST_READERS


def families(readers):
    """All greatest families, tuples of numbers of readers, in order."""
    if len(readers) > MOST_READERS:
        raise TooMany(len(readers))
    alike = {}
    for one, other in combinations(range(len(readers)), 2):
        alike[(one, other)] = parted(readers[one], readers[other]) is None
    found = []
    # The greater ones come first, so that a family is greatest if it is no part of one found.
    for many in range(len(readers), 0, -1):
        for chosen in combinations(range(len(readers)), many):
            if _is_family(chosen, alike) and not any([is_part(chosen, family) for family in found]):
                found.append(chosen)
    return sorted(found)


def _is_family(chosen, alike):
    return all([alike[(one, other)] for one in chosen for other in chosen if one < other])
