"""The table of points of a web, and its corners: how many trees a joined web has, without a tree told."""

from manycounts.webs import refuse_no_point_of


def corner_at(web, point):
    """The determinant of the table of points without the point's row and column."""
    refuse_no_point_of(web, point)
    rows = table_of_points(web)
    return determinant([without_place(row, point) for row in without_place(rows, point)])


def table_of_points(web):
    """At a point and itself how many ties it has that are no curls, at two points how many between them, below 0."""
    rows = [[0] * web[0] for point in range(web[0])]
    for a, b in web[1]:
        if a != b:
            rows[a][a] = rows[a][a] + 1
            rows[b][b] = rows[b][b] + 1
            rows[a][b] = rows[a][b] - 1
            rows[b][a] = rows[b][a] - 1
    return rows


def without_place(things, place):
    """A list without what stands at this place."""
    return things[:place] + things[place + 1:]


def determinant(rows):
    """The determinant of a table, by its first row; 1 where there are no rows."""
    if not rows:
        return 1
    total = 0
    sign = 1
    for column, number in enumerate(rows[0]):
        # A web has so few ties that most numbers are 0: passed over, they leave few ways down.
        if number != 0:
            total = total + sign * number * determinant([without_place(row, column) for row in rows[1:]])
        sign = -sign
    return total
