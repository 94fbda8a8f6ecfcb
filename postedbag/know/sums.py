"""Sums: what rules post together with the ways behind them."""


# Of an ascending list each so many-th one is looked at first.
APART = 20


def summed_all(packing, sums):
    """The list of the codes of some sums, each of which is one of a code and of a code of each list."""
    found = {}
    for own, lists in sums:
        codes = [own]
        for more in lists:
            codes = added_all(packing, codes, more)
        found.update({code: True for code in codes})
    return list(found)


def added_all(packing, codes, more):
    """The list of the sums of a code of each of two lists."""
    if any([code & packing.wide for code in codes]) or any([code & packing.wide for code in more]):
        return list({packing.normal(one + other): True for one in codes for other in more})
    return list({one + other: True for one in codes for other in more})


def are_beyond(packing, sums, most):
    """Whether the heaviest of some sums show that more than the most of these are within no other ones."""
    weighed = []
    for own, lists in sums:
        heads = [heaviest(packing, codes) for codes in lists]
        weighed.append((own % packing.whole + sum([weight for weight, _ in heads]), [codes for _, codes in heads]))
    lists = max(weighed, key=lambda row: row[0])[1] if weighed else []
    # Sums with ANY are less heavy than the bags that they are sums of.
    if len(lists) != 2 or any([code & packing.wide for codes in lists for code in codes]):
        return False
    seen = set()
    # Bags that are far from one another soon make many different sums.
    far = sorted(lists[0])
    for one in [code for at in range(APART) for code in far[at::APART]]:
        for other in lists[1]:
            seen.add(one + other)
        if len(seen) > most:
            return True
    return False


def heaviest(packing, codes):
    """The greatest weight of some codes, and the list of those that have it."""
    weights = [code % packing.whole for code in codes]
    most = max(weights)
    return most, [code for code, weight in zip(codes, weights) if weight == most]


def split(packing, own, lists, keep, wanted):
    """A code of each of some lists, such that their kept entries and those of a code are wanted, or None."""
    if not lists:
        return [] if own == wanted else None
    if len(lists) == 1 and wanted & packing.wide == 0:
        found = {code & keep: code for code in lists[0]}
        return [found[wanted - own]] if wanted - own in found else None
    for code in lists[0]:
        codes = split(packing, packing.normal(own + (code & keep)), lists[1:], keep, wanted)
        if codes is not None:
            return [code, *codes]
    return None
