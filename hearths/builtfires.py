"""The rule for books: a fire that fits, or a paper of at most four rooms."""

from hearths.books import need_woods_and_book
from hearths.hourspans import fire_in_spans, is_paper_in_spans, paper_in_spans


def spans_of(book):
    """The spans that tell just what a book tells."""
    return {room: (hour, hour) for room, hour in book.items()}


def fire_for(house, woods, book):
    need_woods_and_book(house, woods, book)
    return fire_in_spans(house, woods, spans_of(book))


def paper_for(house, woods, book):
    need_woods_and_book(house, woods, book)
    return paper_in_spans(house, woods, spans_of(book))


def is_paper(house, woods, book, thing):
    need_woods_and_book(house, woods, book)
    return is_paper_in_spans(house, woods, spans_of(book), thing)
