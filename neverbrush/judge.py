"""One judge: claims, papers against them, reasons for them."""

from neverbrush.claims import claim_from, judged
from neverbrush.errors import Unfit
from neverbrush.kinds import as_row


def fit_claim(value):
    """The CLAIM value."""
    claim = claim_from(value)
    if claim is None:
        raise Unfit()
    return claim


def is_claim(thing):
    """Whether thing is a CLAIM."""
    claim = claim_from(thing)
    return claim is not None and claim == thing


def is_so(claim):
    """Whether claim stands."""
    return judged(fit_claim(claim)).stands()


def paper_against(claim):
    """A PAPER against claim, None if it stands."""
    own = judged(fit_claim(claim))
    return None if own.stands() else own.paper()


def is_paper_against(claim, thing):
    """Whether thing is a PAPER against claim."""
    own = judged(fit_claim(claim))
    return not own.stands() and own.is_paper(thing)


def reason_for(claim):
    """A REASON for claim, None if it does not stand."""
    own = judged(fit_claim(claim))
    return own.reason() if own.stands() else None


def is_reason_for(claim, thing):
    """Whether thing is a REASON for claim."""
    own = judged(fit_claim(claim))
    return own.stands() and own.is_reason(thing)


def first_fallen(claims):
    """The number of the first of claims that does not stand, None if all stand."""
    rows = as_row(claims)
    if rows is None:
        raise Unfit()
    for number, claim in enumerate([fit_claim(own) for own in rows]):
        if not judged(claim).stands():
            return number
    return None
