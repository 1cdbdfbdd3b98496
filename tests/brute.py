"""Small houses, and all their fires gone through one by one, written apart from the package's own ways."""

import itertools
import random

from hearths.houses import House


def house_of(pairs, rooms=None):
    """A house told in words: house_of("ab bc bd"), or house_of("", "a")."""
    doors = [tuple(pair) for pair in pairs.split()]
    names = rooms if rooms is not None else sorted({room for door in doors for room in door})
    return House(list(names), doors)


def random_house(chance, many):
    """A house of so many rooms, each hung at any ahead of it, names in any order."""
    names = [f"r{number}" for number in range(many)]
    chance.shuffle(names)
    doors = [(names[at], names[chance.randrange(at)]) for at in range(1, many)]
    chance.shuffle(doors)
    return House(names, [door if chance.random() < 0.5 else door[::-1] for door in doors])


def random_woods(chance, house, most):
    return {room: chance.randint(1, most) for room in house.rooms()}


def small_cases(seed, many, most_rooms=5, most_wood=3):
    """Triples (chance, house, woods), the same ones each time."""
    for number in range(many):
        chance = random.Random(1000 * seed + number)
        house = random_house(chance, chance.randint(1, most_rooms))
        yield chance, house, random_woods(chance, house, most_wood)


def row_house(many):
    names = [f"n{number:02}" for number in range(many)]
    return House(names, list(zip(names, names[1:])))


def star_house(many):
    names = [f"n{number:02}" for number in range(many)]
    return House(names, [(names[many // 2], name) for name in names if name != names[many // 2]])


def great_houses(many=60):
    """A row, a star, a comb and some random houses of so many rooms."""
    names = [f"n{number:02}" for number in range(many)]
    half = many // 2
    comb = list(zip(names[:half], names[1:half])) + [(names[at % half], names[at]) for at in range(half, many)]
    houses = [row_house(many), star_house(many), House(names, comb)]
    return houses + [random_house(random.Random(seed), many) for seed in (1, 2)]


def ways_on(house, room):
    return [door[0] if door[1] == room else door[1] for door in house.doors() if room in door]


def path(house, one, other, came=None):
    """The rooms from one to other, by going on in all directions."""
    if one == other:
        return [one]
    for room in ways_on(house, one):
        if room != came:
            rest = path(house, room, other, one)
            if rest:
                return [one] + rest
    return []


def outward(house, first):
    """The list of the pairs (room, the one ahead of it), from first on."""
    found = [(first, None)]
    for room, came in found:
        found.extend((far, room) for far in ways_on(house, room) if far != came)
    return found


def fires_from(house, woods, first):
    """All fires with this first room, lit at 0."""
    rows = outward(house, first)
    for steps in itertools.product(*[range(1, woods[came] + 1) for _, came in rows[1:]]):
        fire = {first: 0}
        for (room, came), step in zip(rows[1:], steps):
            fire[room] = fire[came] + step
        yield fire


def all_fires(house, woods):
    """The list of the pairs (first room, fire) of all fires with the first hour 0."""
    return [(first, fire) for first in house.rooms() for fire in fires_from(house, woods, first)]


def moved(fire, hours):
    return {room: hour + hours for room, hour in fire.items()}


def all_fitting(house, woods, book):
    """The list of the pairs (first room, fire) of all fires that fit a book that is not empty."""
    noted = next(iter(book))
    fitting = []
    for first, fire in all_fires(house, woods):
        there = moved(fire, book[noted] - fire[noted])
        if all(there[room] == hour for room, hour in book.items()):
            fitting.append((first, there))
    return fitting


def all_within(house, woods, spans):
    """The list of the pairs (first room, fire) of all fires that keep to spans that are not empty."""
    told = next(iter(spans))
    kept = []
    for first, fire in all_fires(house, woods):
        for hour in range(spans[told][0], spans[told][1] + 1):
            there = moved(fire, hour - fire[told])
            if all(least <= there[room] <= most for room, (least, most) in spans.items()):
                kept.append((first, there))
    return kept


def random_book(chance, house, woods, change=0.4):
    """Some hours of a fire, some of them changed a little: so books that fit and others come about alike."""
    fires = all_fires(house, woods)
    fire = moved(chance.choice(fires)[1], chance.randint(-3, 3))
    some = [room for room in house.rooms() if chance.random() < 0.7] or house.rooms()[:1]
    chance.shuffle(some)
    return {room: fire[room] + (chance.choice([-2, -1, 1, 2]) if chance.random() < change else 0) for room in some}


def stretches_of(hours):
    """The stretches of a set of integers, each as long as can be."""
    told = []
    for hour in sorted(set(hours)):
        if told and told[-1][1] == hour - 1:
            told[-1] = (told[-1][0], hour)
        else:
            told.append((hour, hour))
    return told


def sample_of_objects(house):
    """Objects of all kinds, none of which is a room, a list of rooms, or a dict of rooms."""
    return [0, 1, -1, True, False, None, "", "zz", "A", [], (), {}, [None], ["zz"], [[]], {"zz": 1}, {1: 2},
            {(): []}, {None: None}, house, len, lambda: 0, [house], {"zz": house}, "a" * 13, 10 ** 40]


def all_blazes(house, woods):
    """The list of all blazes in which the first room, ascending, has the hour 0."""
    rows = outward(house, house.rooms()[0])
    blazes = [{rows[0][0]: 0}]
    for room, came in rows[1:]:
        blazes = [dict(blaze, **{room: hour}) for blaze in blazes
                  for hour in range(blaze[came] - woods[room], blaze[came] + woods[came] + 1)]
    return blazes


def blazes_of_book(blazes, book):
    """Of all blazes, each moved so that it has the hour of the first noted room, those that have all."""
    noted = next(iter(book))
    there = [moved(blaze, book[noted] - blaze[noted]) for blaze in blazes]
    return [blaze for blaze in there if all(blaze[room] == hour for room, hour in book.items())]


def made_in(house, blaze):
    return [room for room in house.rooms() if all(blaze[far] >= blaze[room] for far in ways_on(house, room))]


def book_of_blaze(chance, house, woods, change=0.3):
    """Some hours of a blaze, some of them changed a little."""
    blaze = moved(chance.choice(all_blazes(house, woods)), chance.randint(-3, 3))
    some = [room for room in house.rooms() if chance.random() < 0.6] or house.rooms()[-1:]
    chance.shuffle(some)
    return {room: blaze[room] + (chance.choice([-2, -1, 1, 2]) if chance.random() < change else 0) for room in some}


def next_by_words(house, tour):
    """The rooms that can stand next in a tour that begins so, by the words of [104]."""
    for room in path(house, tour[-1], tour[0]):
        left = [far for far in ways_on(house, room) if far not in tour]
        if left:
            return room, left
    return None, []


def all_tours(house, first):
    """The list of all tours that begin with a room."""
    tours = [[first]]
    for _ in range(len(house) - 1):
        tours = [tour + [room] for tour in tours for room in next_by_words(house, tour)[1]]
    return tours


def tour_by_words(house, back, tour):
    """The pair of the hours of a tour and of the rooms from which they are lit, room by room."""
    hours, lit = {tour[0]: 0}, {tour[0]: None}
    for at in range(1, len(tour)):
        here, _ = next_by_words(house, tour[:at])
        doors = len(path(house, tour[at - 1], here)) - 1
        hours[tour[at]] = hours[tour[at - 1]] + 1 + back * doors
        lit[tour[at]] = here
    return hours, lit


def tours_in_time(house, woods, back, first):
    """The list of the pairs (tour, hours) of all tours in time that begin with a room, as lists compare."""
    told = []
    for tour in sorted(all_tours(house, first)):
        hours, lit = tour_by_words(house, back, tour)
        if all(lit[room] is None or hours[room] - hours[lit[room]] <= woods[lit[room]] for room in tour):
            told.append((tour, hours))
    return told


def all_orders(rooms):
    """The list of all rows of lots of some rooms."""
    if not rooms:
        return [[]]
    orders = []
    for many in range(1, len(rooms) + 1):
        for lot in itertools.combinations(sorted(rooms), many):
            left = [room for room in rooms if room not in lot]
            orders += [[list(lot)] + rest for rest in all_orders(left)]
    return orders


def order_by_hours(fire):
    """The order of a fire, by its hours."""
    return [sorted(room for room in fire if fire[room] == hour) for hour in sorted(set(fire.values()))]
