"""What one hour more would tell, all fires that fit a book being as likely."""

from hearths.firsthours import telling_hours
from hearths.given import counts_by_hour, need_fitting
from hearths.houses import need_room
from hearths.plain import lowest_terms


def _squares(counts):
    return sum([many * many for many in counts.values()])


def left_mean(house, woods, book, room):
    need_fitting(house, woods, book)
    need_room(house, room)
    counts = counts_by_hour(house, woods, book, room)
    return lowest_terms(_squares(counts), sum(list(counts.values())))


def first_known(house, woods, book, room):
    need_fitting(house, woods, book)
    need_room(house, room)
    counts = counts_by_hour(house, woods, book, room)
    telling = telling_hours(house, woods, book, room)
    known = [counts[hour] for hour in counts if any([least <= hour <= most for least, most in telling])]
    return lowest_terms(sum(known), sum(list(counts.values())))


def best_asked(house, woods, book):
    need_fitting(house, woods, book)
    return min(house.rooms(), key=lambda room: _squares(counts_by_hour(house, woods, book, room)))
