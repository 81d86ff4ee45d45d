"""Pairs turned so that each store gives about as often as it takes."""

from movedwhole.moves import check_pairs


def halved(many, pairs):
    """The pairs, some of them turned: each store is at each place of at most half of its load, rounded up.

    Walks over the pairs leave each store that they come to, as long as it has
    pairs. At a store of an odd load a walk begins or ends just once: those
    from such stores are walked first, so that all later ones end where they began.
    """
    check_pairs(many, pairs)
    places = [[place for place, pair in enumerate(pairs) if store in pair] for store in range(many)]
    odd = [store for store in range(many) if len(places[store]) & 1]
    turned = {}
    for store in odd + list(range(many)):
        walk(store, pairs, places, turned)
    return tuple([turned[place] for place in range(len(pairs))])


def walk(store, pairs, places, turned):
    """Turns pairs, each to begin where the last one ended, until it comes to a store without further ones."""
    while places[store]:
        place = places[store].pop()
        if place in turned:
            continue
        giver, taker = pairs[place]
        end = taker if store == giver else giver
        turned[place] = (store, end)
        store = end
