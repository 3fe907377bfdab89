"""Seeking the shortest row of steps from spot to spot."""


def row_to(came, spot):
    # From the end to the begin, as each spot knows but the one that it was come to from.
    row = []
    while spot is not None:
        ahead = came[spot]
        row.append((spot, ahead[1]))
        spot = ahead[0]
    row.reverse()
    return row


def seek(begins, steps_from, is_end):
    # A step is a tuple of the spot that it comes to and of how it comes there. Told is a list of such tuples from one
    # of the begins to an end, or None where no end is come to.
    came = {}
    for spot in begins:
        came[spot] = (None, None)
    row = list(begins)
    number = 0
    while number < len(row):
        spot = row[number]
        if is_end(spot):
            return row_to(came, spot)
        for step in steps_from(spot):
            if step[0] not in came:
                came[step[0]] = (spot, step[1])
                row.append(step[0])
        number += 1
    return None
