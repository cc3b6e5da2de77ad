"""Terms as texts."""


def shown_term(term):
    if term[0] == "name":
        return term[1]
    return bracketed([term[1]] + [shown_term(inner) for inner in term[2]])


def bracketed(words):
    return "(" + " ".join(words) + ")"
