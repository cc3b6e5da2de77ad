"""Terms and wishes as texts, written in just one way each."""

from smallword.fractiontexts import fraction_text

# How a text calls the kinds of wishes whose parts stand in it one behind the other.
FIRST_WORDS = {"not": "not", "both": "all", "either": "any", "like": "like", "most": "most"}


def bracketed(words):
    return "(" + " ".join(words) + ")"


def shown_term(term):
    if term[0] == "name":
        return term[1]
    return bracketed([term[1]] + [shown_term(inner) for inner in term[2]])


def shown_wish(wish):
    if wish[0] == "flag":
        return wish[1]
    return bracketed([FIRST_WORDS[wish[0]]] + inner_texts(wish))


def inner_texts(wish):
    """The texts of what stands in a wish that is no flag, one behind the other."""
    if wish[0] == "not":
        return [shown_wish(wish[1])]
    if wish[0] == "like":
        return [shown_term(wish[1]), shown_term(wish[2])]
    if wish[0] == "most":
        return sum_texts(wish[1]) + [fraction_text(wish[2])]
    return [shown_wish(inner) for inner in wish[1]]


def sum_texts(pairs):
    texts = []
    for term, share in pairs:
        texts.append(fraction_text(share))
        texts.append(shown_term(term))
    return texts
