"""Webs and odd things that several tests ask about."""

import functools
import itertools
import math

TRIANGLE = (3, ((0, 1), (0, 2), (1, 2)))
TWIN_AND_CURL = (3, ((0, 1), (0, 1), (2, 2)))
LONE_POINT = (1, ())
LOOSE_POINTS = (9, ())
PATH_OF_NINE = (9, tuple((k, k + 1) for k in range(8)))
EIGHT_CURLS = (1, ((0, 0),) * 8)
EIGHT_TWINS = (2, ((0, 1),) * 8)
TWO_PARTS = (6, ((0, 3), (3, 5), (0, 5), (1, 4), (4, 4)))
WHEEL = (5, ((0, 1), (0, 2), (0, 3), (0, 4), (1, 2), (2, 3), (3, 4), (1, 4)))
PLAIN_AND_MORE = (4, ((0, 1), (1, 1), (1, 2), (1, 2), (2, 3)))
SQUARE_WITH_A_BAR = (4, ((0, 1), (1, 2), (2, 3), (0, 3), (0, 2)))
EACH_WITH_EACH = (4, ((0, 1), (0, 2), (0, 3), (1, 2), (1, 3), (2, 3)))
ALL_KINDS = (6, ((4, 5), (0, 1), (2, 2), (0, 1), (1, 2), (4, 5)))

SAMPLES = (
    TRIANGLE,
    TWIN_AND_CURL,
    LONE_POINT,
    LOOSE_POINTS,
    PATH_OF_NINE,
    EIGHT_CURLS,
    EIGHT_TWINS,
    TWO_PARTS,
    WHEEL,
)

# None of these is a whole number, a pair of points, a number of a tie or a web's text.
ODD_THINGS = (
    True,
    False,
    None,
    "",
    "0",
    "1",
    "01",
    b"3:",
    1.0,
    0.0,
    float("nan"),
    1j,
    [],
    [1],
    [0, 1],
    (),
    (1,),
    (0,),
    (0, 1, 0),
    {},
    {0: 1},
    {0, 1},
    frozenset((0, 1)),
    range(2),
    object(),
    int,
    len,
)

FAR_NUMBERS = (-1, -2, -9, -(10**20), -(10**59), 10**20, 10**59, 2**64)


def small_webs():
    """Every web of at most three points and at most three ties."""
    for points in (1, 2, 3):
        pairs = [(a, b) for a in range(points) for b in range(a, points)]
        for many in range(4):
            for ties in itertools.product(pairs, repeat=many):
                yield (points, ties)


def jumbled_webs():
    """Webs of one to nine points and of up to eight ties, jumbled, but always the same ones."""
    number = 1
    for points in range(1, 10):
        for many in (3, 5, 6, 7, 8):
            ends = []
            for end in range(2 * many):
                number = (number * 1103515245 + 12345) % 2**31
                ends.append((number >> 16) % points)
            yield (points, tuple(tuple(sorted(ends[k:k + 2])) for k in range(0, 2 * many, 2)))


def many_webs():
    """The webs that most promises are tried on."""
    named = (PLAIN_AND_MORE, SQUARE_WITH_A_BAR, EACH_WITH_EACH, ALL_KINDS)
    return list(SAMPLES) + list(named) + list(small_webs()) + list(jumbled_webs())


def picks_by_mask(web):
    """All picks of a web, made another way than the program makes them."""
    many = len(web[1])
    masks = range(1 << many)
    picks = [tuple(k for k in range(many) if mask >> k & 1) for mask in masks]
    return sorted(picks, key=lambda pick: (len(pick), pick))


def reached_from(web, pick, start):
    """The points to which a way leads, found by walking."""
    seen = {start}
    waiting = [start]
    while waiting:
        point = waiting.pop()
        for k in pick:
            ends = web[1][k]
            if point in ends:
                for end in ends:
                    if end not in seen:
                        seen.add(end)
                        waiting.append(end)
    return sorted(seen)


def clusters_by_walking(web, pick):
    """The clusters of a pick, made another way than the program makes them."""
    found = []
    for point in range(web[0]):
        cluster = reached_from(web, pick, point)
        if cluster not in found:
            found.append(cluster)
    return sorted(found)


def rank_by_walking(web, pick):
    """The rank of a pick, by clusters that are found by walking."""
    return web[0] - len(clusters_by_walking(web, pick))


def trees_by_walking(web):
    """All trees, sorted: picks that hold the web's clusters together, but not without any one of their ties."""
    whole = clusters_by_walking(web, range(len(web[1])))
    holders = {pick for pick in picks_by_mask(web) if clusters_by_walking(web, pick) == whole}
    lesser = {pick: [pick[:at] + pick[at + 1:] for at in range(len(pick))] for pick in holders}
    return sorted(pick for pick in holders if not any(less in holders for less in lesser[pick]))


def poly_by_dict(terms):
    """The polynomial of terms, made another way than the program makes it."""
    powers = sorted({(i, j) for i, j, times in terms})
    sums = [(i, j, sum(term[2] for term in terms if term[:2] == (i, j))) for i, j in powers]
    return tuple(term for term in sums if term[2])


def poly_by_picks(web):
    """The polynomial of a web, by ranks and sizes of picks, each power of x - 1 and y - 1 written out."""
    whole = rank_by_walking(web, range(len(web[1])))
    terms = []
    for pick in picks_by_mask(web):
        rank = rank_by_walking(web, pick)
        up, across = whole - rank, len(pick) - rank
        for i in range(up + 1):
            for j in range(across + 1):
                sign = (-1) ** (up - i + across - j)
                terms.append((i, j, sign * math.comb(up, i) * math.comb(across, j)))
    return poly_by_dict(terms)


def some_orders(many):
    """All orders of few ties; of more, each turned round and backwards, and some that jump."""
    if many <= 4:
        return every_order(many)
    plain = list(range(many))
    orders = [plain[k:] + plain[:k] for k in plain]
    orders += [plain[::2] + plain[1::2], plain[1::2] + plain[::2], plain[1:2] + plain[:1] + plain[2:]]
    return orders + [order[::-1] for order in orders]


def every_order(many):
    """Each order of so many ties."""
    return [list(order) for order in itertools.permutations(range(many))]


def wrong_orders(web):
    """Things that are no order of the web's ties."""
    return not_each_once(len(web[1]))


def wrong_places(web):
    """Things that are no places for the web's points."""
    return not_each_once(web[0]) + [None]


def not_each_once(many):
    """Things, other than None, that are no list or tuple with each number below many once."""
    plain = list(range(many))
    odd_things = [odd for odd in ODD_THINGS + FAR_NUMBERS if odd is not None]
    wrong = [odd for odd in odd_things if odd not in (plain, tuple(plain))] + [0, 1, 3]
    wrong += [plain + [len(plain)], plain + [-1], plain + [None], tuple(plain) + (0,), [plain], (plain,)]
    wrong += [range(len(plain)), dict.fromkeys(plain), iter(plain), "".join(str(k) for k in plain), bytearray(plain)]
    for at in plain:
        within = odd_things + [None, len(plain), str(at), float(at), [at]] + [k for k in plain if k != at]
        wrong += [plain[:at] + [odd] + plain[at + 1:] for odd in within]
        wrong += [plain[:at] + plain[at + 1:], tuple(plain[:at] + plain[at + 1:]), plain + [at]]
    return wrong


def pointings_by_product(web):
    """All pointings of a web, sorted."""
    return sorted(itertools.product((0, 1), repeat=len(web[1])))


def led(web, pointing, k):
    """The points from which and to which the tie k leads."""
    a, b = web[1][k]
    return (a, b) if pointing[k] == 0 else (b, a)


def far_reached(web, pointing):
    """For each point all points to which ties lead from it, itself among them."""
    reached = [{point} for point in range(web[0])]
    for step in range(web[0]):
        for k in range(len(web[1])):
            start, end = led(web, pointing, k)
            reached[start] |= reached[end]
    return reached


def ringed_ties(web, pointing):
    """The ties from whose end something leads back to where they begin."""
    reached = far_reached(web, pointing)
    ends = [led(web, pointing, k) for k in range(len(web[1]))]
    return [k for k, (start, end) in enumerate(ends) if start in reached[end]]


def springs_by_words(web, pointing):
    """The points to which no tie leads."""
    ends = {led(web, pointing, k)[1] for k in range(len(web[1]))}
    return [point for point in range(web[0]) if point not in ends]


def score_by_words(web, pointing):
    """For each point how many ties lead from it."""
    score = [0] * web[0]
    for k in range(len(web[1])):
        score[led(web, pointing, k)[0]] += 1
    return tuple(score)


def scores_by_words(web):
    """All unlike scores, sorted."""
    return sorted({score_by_words(web, pointing) for pointing in pointings_by_product(web)})


def colourings_by_words(web, q):
    """All colourings by q colours, found among all tuples."""
    tuples = itertools.product(range(q), repeat=web[0])
    return [colours for colours in tuples if all(colours[a] != colours[b] for a, b in web[1])]


def is_flow_by_words(web, numbers, q):
    """Whether, at each point, those that have it as a and those that have it as b come to one rest."""
    for point in range(web[0]):
        away = sum(number for (a, b), number in zip(web[1], numbers) if a == point)
        near = sum(number for (a, b), number in zip(web[1], numbers) if b == point)
        if away % q != near % q:
            return False
    return True


def flows_by_words(web, q):
    """All flows by q, found among all tuples."""
    tuples = itertools.product(range(1, q), repeat=len(web[1]))
    return [numbers for numbers in tuples if is_flow_by_words(web, numbers, q)]


def worth_of(row, q):
    """The worth of a row for q."""
    return sum(number * q**k for k, number in enumerate(row))


def wrong_points(web):
    """Things that are no point of the web."""
    points = web[0]
    return ODD_THINGS + FAR_NUMBERS + (points, points + 1, -points, (0, 1), [points], "2")


def grid_poly(width, height, start=1):
    """A polynomial of width times height terms, its times of both signs and none alike."""
    places = [(i, j) for i in range(width) for j in range(height)]
    return tuple((i, j, (start + k) * (-1) ** k) for k, (i, j) in enumerate(places))


def rounds_by_walking(follows):
    """The rounds of a dict that leads from each end to the next one, each from its least end on, sorted."""
    left, rounds = sorted(follows), []
    while left:
        ends = [left[0]]
        while follows[ends[-1]] != ends[0]:
            ends.append(follows[ends[-1]])
        rounds.append(ends)
        left = [end for end in left if end not in ends]
    return rounds or [[]]


def points_by_walking(turns):
    """The rounds that are the points of a drawing."""
    return rounds_by_walking(dict(enumerate(turns)))


def lands_by_walking(turns):
    """The rounds that are the lands of a drawing: along a tie, and on to the next one there."""
    mates = {end: 4 * (end // 2) + 1 - end for end in range(len(turns))}
    return rounds_by_walking({end: turns[mates[end]] for end in mates})


def web_by_walking(turns):
    """The web of a drawing, told or refused."""
    points = points_by_walking(turns)
    places = [[at for at, ends in enumerate(points) if end in ends][0] for end in range(len(turns))]
    return (len(points), tuple(tuple(sorted(places[k:k + 2])) for k in range(0, len(turns), 2)))


def is_plane(turns):
    """Whether turns that have each end once are those of a joined drawing in the plane."""
    web = web_by_walking(turns)
    joined = len(clusters_by_walking(web, range(len(web[1])))) == 1
    return joined and web[0] - len(web[1]) + len(lands_by_walking(turns)) == 2


def with_one_tie_more(turns):
    """The drawings in the plane of a drawing and a tie more, its ends at old points or at a new one."""
    many = len(turns)
    for one, other in itertools.product([None, *range(many)], [None, *range(many + 1)]):
        grown = list(turns) + [None, None]
        for end, behind in ((many, one), (many + 1, other)):
            grown[end] = end if behind is None else grown[behind]
            if behind is not None:
                grown[behind] = end
        if is_plane(grown):
            yield tuple(grown)


@functools.cache
def grown_drawings():
    """Drawings of no tie and of one to eight ties, grown tie by tie; of each size not more than forty."""
    of_one_size, drawings = [()], [()]
    for many in range(8):
        greater = sorted({grown for turns in of_one_size for grown in with_one_tie_more(turns)})
        # A step that shares nothing with the sizes takes them from everywhere.
        of_one_size = greater[::max(1, len(greater) // 40 | 1)][:40]
        drawings += of_one_size
    return drawings
