"""Which rules of a reader are to be turned to refusals, so that it is alike with other readers."""

from itertools import combinations

from splitalike.choices import is_part, shares
from splitalike.errors import NoRule, TooMany
from splitalike.machines import Machine
from splitalike.parting import parted
from splitalike.rows import short_row_of
from splitalike.runs import shown
from splitalike.turning import Turned, all_rules, rules_used

MOST_RULES = 10


def rules_of(reader):
    """All rules of a reader, pairs (name, number), in order."""
    return all_rules(reader)


def used(reader, row):
    """The rules that a run on a row uses, each once, in order."""
    return rules_used(reader, short_row_of(row).cells())


def shows_turned(reader, rules, row):
    """(places of cuts, place of the refusal or None) of a reader with these rules turned, on a row."""
    short = short_row_of(row)
    places, refused = shown(Machine(_turned(reader, rules)), short)
    return (tuple(places), refused)


def makes_safe(reader, rules, others):
    """Whether a reader with these rules turned is alike with each of the others."""
    return _parting_row(_turned(reader, rules), others) is None


def least_sets(reader, others):
    """All least sets of rules that make a reader safe, the smaller ones first, then in order."""
    rules = all_rules(reader)
    if len(rules) > MOST_RULES:
        raise TooMany(len(rules))
    found = []
    # What parting rows use: a set that makes safe has a rule of each of them.
    uses = []
    for many in range(len(rules) + 1):
        for chosen in combinations(rules, many):
            if any([is_part(least, chosen) for least in found]) or not all([shares(chosen, own) for own in uses]):
                continue
            row = _parting_row(Turned(reader, chosen), others)
            if row is None:
                found.append(chosen)
            else:
                uses.append(rules_used(reader, row))
    return found


def _turned(reader, rules):
    """The reader with these rules turned, if they are rules of it."""
    known = all_rules(reader)
    for rule in rules:
        if tuple(rule) not in known:
            raise NoRule(rule)
    return Turned(reader, [tuple(rule) for rule in rules])


def _parting_row(turned, others):
    """A row that parts a turned reader from one of the others, or None."""
    for other in others:
        row = parted(turned, other)
        if row is not None:
            return row
    return None
