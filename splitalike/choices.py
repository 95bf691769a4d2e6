"""What is asked of choices out of a list, each of them a sequence."""


def is_part(chosen, others):
    """Whether all that is chosen is among the others."""
    return all([one in others for one in chosen])


def shares(chosen, others):
    """Whether something that is chosen is among the others."""
    return any([one in others for one in chosen])
