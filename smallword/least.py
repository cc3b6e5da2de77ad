"""Least reasons: wishes that no world keeps, though one does without any one of them."""

from smallword.deciding import decided
from smallword.trimming import rest_of


def least_reason(wishes):
    """The numbers, rising, of a least reason of wishes that no world keeps; None where one does."""
    kind, told = decided(wishes)
    if kind == "yes":
        return None
    places = rest_of(told)
    for place in list(places):
        if place not in places:
            continue
        fewer = [left for left in places if left != place]
        kind, told = decided([wishes[left] for left in fewer])
        if kind == "no":
            places = [fewer[number] for number in rest_of(told)]
    return places
