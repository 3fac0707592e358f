"""Closing what is left, and the search for a paper or a rule (points 8, 11 and 12).

What is left is a list of the masks of the dealings left, one for each row.
"""

from dealclashes.masks import is_one, numbers_in


def fixed(left, place, mask):
    """Return what is left with only the dealings of a mask left for the row at this place."""
    return left[:place] + [left[place] & mask] + left[place + 1:]


def closed(ground, left):
    """Return what is left when nothing can be struck any more."""
    return struck(ground, left, list(range(len(left))))


def narrowed(ground, left, place, number):
    """Return what is left and closed with only this dealing left for the row at this place."""
    # All else was closed, so that this row alone can strike at first.
    return struck(ground, fixed(left, place, 1 << number), [place])


def struck(ground, left, places):
    """Return what is left when the rows at these places, and all that then change, have struck."""
    left = list(left)
    waiting = list(places)
    while waiting:
        place = waiting.pop()
        for other, fits in ground.links[place]:
            mask = left[other] & fits[left[place]]
            if mask != left[other]:
                left[other] = mask
                waiting.append(other)
    return left


def is_empty(ground, left):
    """Return whether what is left and closed is empty."""
    return 0 in left or any([is_lost(aim, left) for aim in ground.aims])


def is_lost(aim, left):
    """Return whether nothing of the aim is left at any row."""
    return not any([good & mask for good, mask in zip(aim, left)])


def is_met(aim, left):
    """Return whether at some row nothing but the aim is left."""
    return any([good & mask == mask for good, mask in zip(aim, left)])


def hopes(aim, left):
    """Return the places of the rows with some of the aim left, and two dealings or more."""
    return [place for place, mask in enumerate(left) if aim[place] & mask and not is_one(mask)]


def find_branch(ground, left):
    """Return the place of a row to branch at and the numbers left for it, in the order to try them.

    None if one dealing is left for each row. The aims come first, and rows
    with few dealings left, so that papers are small and rules soon found.
    """
    unmet = [aim for aim in ground.aims if not is_met(aim, left)]
    aim = min(unmet, key=lambda one: len(hopes(one, left))) if unmet else left
    places = hopes(aim, left)
    if places == []:
        return None
    place = min(places, key=lambda at: len(numbers_in(left[at])))
    good = aim[place] & left[place]
    return place, numbers_in(good) + numbers_in(left[place] - good)


def search(ground, left):
    """Return, for what is left and closed, a paper and None, or None and a rule that deals what is left."""
    if is_empty(ground, left):
        return (), None
    branch = find_branch(ground, left)
    if branch is None:
        return None, tuple([mask.bit_length() - 1 for mask in left])
    place, numbers = branch
    papers = {}
    for number in numbers:
        paper, rule = search(ground, narrowed(ground, left, place, number))
        if rule is not None:
            return None, rule
        papers[number] = paper
    return (ground.rows[place], tuple([papers[number] for number in sorted(papers)])), None
