"""The image of a house."""

from wholetongue.laying import Layout, image_laid
from wholetongue.made import made_of


def image_of(house, *, lean=False):
    """(code, places, defs, keeps, consts, uses, names) of a house, with rows made fewer if lean."""
    return image_laid(Layout(made_of(house, lean)))
