"""Words with wrong and lost signs (None): what the ways of mending share."""


def lost_places(signs):
    """The places of the lost signs, rising."""
    return [place for place, sign in enumerate(signs) if sign is None]


def noughts_for_lost(signs):
    """A new list with 0 where a sign is lost."""
    return [0 if sign is None else sign for sign in signs]


def taken_off(field, word, places, signs):
    """The word less these signs at these places."""
    left = list(word)
    for place, sign in zip(places, signs):
        left[place] = field.minus(left[place], sign)
    return left


def differences(signs, sent):
    """The tuples (place, was, due) of all places not lost at which the signs differ from what was sent, rising."""
    found = []
    for place, due in enumerate(sent):
        was = signs[place]
        if was is not None and was != due:
            found.append((place, was, due))
    return found
