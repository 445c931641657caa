"""Surveys: which of some sites are craters, by pictures from known standings."""

from moonfall.budgets import Budget
from moonfall.errors import BadGround, BadStanding
from moonfall.masks import bits
from moonfall.siterows import SiteRows
from moonfall.whole import FARTHEST, MOST_CRATERS, is_crater, is_triple, is_turn


class Survey:
    """Sites, and what was seen of them."""

    def __init__(self, sites, camera, looks):
        for number, site in enumerate(sites):
            if number >= MOST_CRATERS or not is_crater(site) or site in sites[:number]:
                raise BadGround(number)
        for standing, picture in looks:
            if not _is_standing(standing):
                raise BadStanding(standing)
            camera.check_picture(picture)
        self.sites = tuple(sorted(sites))
        self.camera = camera
        self.looks = tuple([(standing, picture) for standing, picture in looks])


def _is_standing(thing):
    if not is_triple(thing) or not is_turn(thing[0]):
        return False
    return all([-FARTHEST <= shift <= FARTHEST for shift in thing[1:]])


def _rows_of(survey, most):
    budget = Budget(most)
    budget.spend()
    return SiteRows(survey, budget)


def _sites_of(survey, mask):
    return tuple([survey.sites[number] for number in bits(mask)])


def grounds_for(survey, most):
    """The ascending list of all rows of sites that, as the only craters, fit all looks."""
    return sorted([_sites_of(survey, mask) for mask in _rows_of(survey, most).all_rows()])


def sure_sites(survey, most):
    """The ascending tuple of the sites in all these rows; None without any row."""
    rows = _rows_of(survey, most)
    row = rows.first_row(0, 0)
    if row is None:
        return None
    return _sites_of(survey, row & ~rows.free_among(row, row))


def possible_sites(survey, most):
    """The ascending tuple of the sites in some of these rows; () without any row."""
    rows = _rows_of(survey, most)
    row = rows.first_row(0, 0)
    if row is None:
        return ()
    return _sites_of(survey, row | rows.free_among(rows.everything & ~row, row))
