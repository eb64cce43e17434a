"""The lines of a desk that ask and change nothing.

Each is answered by a function that is passed the state of the desk and the words of the line, as many as there
must be. It raises Refused.
"""

from samphire.conditions import parse_condition
from samphire.errors import TextError, TooLarge
from samphire.prices import best_chances, best_price, price_bound, spread
from samphire.report import fraction_word, place_word
from samphire.samples import MOST_SIZE
from samphire.state import Refused, require_plan, store_of, stores_of
from samphire.store import WHATS, differences
from samphire.things import MOST_WEIGHT
from samphire.words import integer_within


def condition_of(text):
    """Return the condition that a text writes. Raises Refused."""
    try:
        return parse_condition(text)
    except TextError as fault:
        raise Refused(f"text {fault.column} {fault.reason}")
    except TooLarge:
        raise Refused("large")


def tell_answer(state, words):
    """Answer `ask NODE WHAT` and a condition."""
    store = store_of(state, words[1])
    what = words[2]
    if what not in WHATS:
        raise Refused("what")
    estimate, variance = store.answer(condition_of(" ".join(words[3:])), what)
    return [f"estimate {fraction_word(estimate)}", f"variance {fraction_word(variance)}"]


def tell_exact(state, words):
    """Answer `exact NODE`."""
    store = store_of(state, words[1])
    return [f"exact {place_word(place)} {word} {number}" for place, word, number in store.exact()]


def tell_kept(state, words):
    """Answer `kept NODE`."""
    store = store_of(state, words[1])
    lines = []
    for place in store.plan.places():
        for key, group, weight, amount in store.sample(place).kept:
            lines.append(f"{place_word(place)} {key} {group} {weight} {amount}")
    return lines


def tell_differences(state, words):
    """Answer `differ NODE OTHER`."""
    store, other = stores_of(state, words[1:])
    return [" ".join(["differ"] + [place_word(place) for place in differences(store, other)])]


def tell_nodes(state, words):
    """Answer `nodes`."""
    require_plan(state)
    return [" ".join([name] + state.stores[name].parts) for name in sorted(state.stores)]


def tell_price(state, words):
    """Answer `price SIZE WEIGHT ..`."""
    size = integer_within(words[1], 1, MOST_SIZE)
    weights = [integer_within(word, 1, MOST_WEIGHT) for word in words[2:]]
    if size is None or None in weights:
        raise Refused("number")
    price = best_price(weights, size)
    spread_word = fraction_word(spread(weights, best_chances(weights, size)))
    bound_word = fraction_word(price_bound(weights, size, price))
    return [f"price {fraction_word(price)}", f"spread {spread_word}", f"bound {bound_word}"]


QUESTIONS = {
    "ask": tell_answer,
    "exact": tell_exact,
    "kept": tell_kept,
    "differ": tell_differences,
    "nodes": tell_nodes,
    "price": tell_price,
}


def answered(state, words):
    """Return the answer to a line that changes nothing. Raises Refused."""
    action = QUESTIONS[words[0]]
    return action(state, words)
