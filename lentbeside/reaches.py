"""Reaches, which take together what lies below a bag.

A reach is a pair (bag, lent), like a region: the bags that have at most as much as bag of each good that is not lent,
and any amount of each lent good. (Of lent goods bag has 0.) Whatever holds a bag that helps helps too; so a reach has
a bag that helps exactly if the region (bag, lent) has one.
"""


def all_among(goods, others):
    """Whether all of the goods are among the other ones."""
    return all([good in others for good in goods])


def lies_in(bag, reach):
    """Whether the bag lies in the reach."""
    most, lent = reach
    return all([k in lent or many <= most[k] for k, many in enumerate(bag)])


def is_part(reach, other):
    """Whether all bags of the reach lie in the other one."""
    bag, lent = reach
    return all_among(lent, other[1]) and lies_in(bag, other)


def narrowed(reach, good, most):
    """The bags of the reach that have at most so many of the good."""
    bag, lent = reach
    return (tuple([most if k == good else many for k, many in enumerate(bag)]), tuple([k for k in lent if k != good]))


def parts_without(reach, bag):
    """Reaches in which just those bags of the reach lie that do not hold the bag."""
    if not lies_in(bag, reach):
        return [reach]
    return [narrowed(reach, good, many - 1) for good, many in enumerate(bag) if many > 0]


def greatest(reaches):
    """Those of the reaches, each once, that are not part of another one."""
    unlike = sorted(set(reaches))
    return [reach for reach in unlike if not any([is_part(reach, other) for other in unlike if other != reach])]


def bags_below(bag):
    """All bags that the bag holds."""
    bags = [()]
    for most in bag:
        bags = [start + (many,) for start in bags for many in range(most + 1)]
    return bags


def regions_of(reaches):
    """The fewest regions in which just the bags of the reaches lie; no reach is part of another one."""
    regions = []
    for most, lent in reaches:
        wider = [reach for reach in reaches if len(reach[1]) > len(lent) and all_among(lent, reach[1])]
        for bag in bags_below(most):
            # Otherwise the region lies in one that more goods are lent for.
            if not any([lies_in(bag, reach) for reach in wider]):
                regions.append((bag, lent))
    return tuple(sorted(set(regions)))
