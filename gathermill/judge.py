"""One judge for all PAPERS."""

from gathermill.claims import is_claim_in_form
from gathermill.deriving import comes_by_rules
from gathermill.errors import Unfit
from gathermill.papers import is_against, is_for, paper_of
from gathermill.tuples import frozen


def is_claim(thing):
    """Whether thing is a CLAIM."""
    return is_claim_in_form(thing)


def known_claim(claim):
    """The CLAIM, made of tuples."""
    claim = frozen(claim)
    if not is_claim(claim):
        raise Unfit()
    return claim


def known_claims(claims):
    """The list of CLAIMS, made of tuples."""
    return [known_claim(claim) for claim in claims]


def is_so(claim):
    """Whether a CLAIM is so."""
    return paper_of(known_claim(claim))[0]


def paper(claim):
    """A PAPER for a CLAIM that is so, or against another one."""
    return paper_of(known_claim(claim))[1]


def is_paper_for(claim, thing):
    """Whether thing is a PAPER for a CLAIM."""
    return is_for(known_claim(claim), thing)


def is_paper_against(claim, thing):
    """Whether thing is a PAPER against a CLAIM."""
    return is_against(known_claim(claim), thing)


def verdicts(claims, things):
    """The list of what each of things is to the CLAIM at its place: "for", "against" or "none"."""
    claims = known_claims(claims)
    if len(claims) != len(things):
        raise Unfit()
    return [verdict(claim, thing) for claim, thing in zip(claims, things)]


def verdict(claim, thing):
    """What a thing is to a CLAIM."""
    if is_for(claim, thing):
        return "for"
    return "against" if is_against(claim, thing) else "none"


def comes_of(claim, claims):
    """Whether a CLAIM comes of others."""
    return comes_by_rules(known_claim(claim), known_claims(claims))


def first_false(claims):
    """The first place whose CLAIM is not so; None if all are."""
    for place, claim in enumerate(known_claims(claims)):
        if not paper_of(claim)[0]:
            return place
    return None
