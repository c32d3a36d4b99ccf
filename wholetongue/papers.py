"""Papers: from where in the texts each code of an image comes."""

from wholetongue.laying import Layout
from wholetongue.made import made_of
from wholetongue.walking import is_place


def papers(house, *, lean=False):
    """(at, part, row, middle, way) for each row's code of a house's image, in turn."""
    return papers_of(Layout(made_of(house, lean)))


def joined(house, image, papers, *, lean=False):
    """The number of the first paper that doesn't lead from an image to the texts, None if all do."""
    layout = Layout(made_of(house, lean))
    own = papers_of(layout)
    for number, (paper, known) in enumerate(zip(papers, own)):
        if paper != known or not stands(layout, number, image):
            return number
    if len(papers) == len(own):
        return None
    return min(len(papers), len(own))


def stands(layout, number, image):
    """Whether an image has the code and the place of the row that is laid at a spot."""
    spot = layout.spots[number]
    code = layout.code_of(spot)
    if list(image[0][spot.at:spot.at + len(code)]) != code:
        return False
    return list(image[1][number:number + 1]) == [(spot.at, spot.file, spot.place)]


def papers_of(layout):
    ways = {made.file: ways_in(made.looked.told, (1,)) for made in layout.files}
    return [
        (spot.at, spot.number, spot.row, spot.cell_row, ways[spot.file][spot.place])
        for spot in layout.spots
    ]


def ways_in(tree, way):
    """The way to each place in a tree, to which itself this one leads."""
    if not isinstance(tree, tuple):
        return {}
    if is_place(tree):
        return {tree: way}
    ways = {}
    for at, thing in enumerate(tree):
        ways.update(ways_in(thing, way + (at,)))
    return ways
