"""Papers: spellings that show that texts one behind the other are a text."""

from skeinwood.spelling import common_items, spells, whole_left


def paper_of(shelf, texts, other):
    """A spelling of each text, which one behind the other spell the other text; None where it doesn't read as they do.

    However long the texts are, few items are told where most of their pieces lie in the other text as they are.
    """
    signs = sum([shelf.signs(text) for text in texts])
    if shelf.signs(other) != signs:
        return None
    other_left = whole_left(shelf, other)
    paper = []
    for text in texts:
        left = whole_left(shelf, text)
        paper.append(common_items(shelf, left, other_left))
        if left != []:
            return None
    return paper


def paper_stands(shelf, texts, other, paper):
    """Whether the paper has a spelling of each text, and these one behind the other spell the other text."""
    for text in texts + [other]:
        shelf.check_text(text)
    if len(paper) != len(texts):
        return False
    together = []
    for items in paper:
        together.extend(items)
    each = [spells(shelf, text, items) for text, items in zip(texts, paper)]
    return all(each) and spells(shelf, other, together)
