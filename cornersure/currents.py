"""Greatest flows over ties with room, in integers."""

from cornersure.chains import Chains


def greatest_flow(ties, place, other):
    """How much goes over each of the ties (FIRST, SECOND, ROOM), from FIRST to SECOND; below 0 the other way."""
    amounts = [0] * len(ties)
    while True:
        # The chains with the fewest ties: so it ends soon, however great the rooms are.
        chains = Chains(_open_steps(ties, amounts), {place: 0}, len(ties) + 1)
        if other not in chains.sizes:
            return amounts
        steps = chains.chain(place, other)
        more = min([_room_left(ties, amounts, index, sign) for index, sign in steps])
        for index, sign in steps:
            amounts[index] += sign * more


def _open_steps(ties, amounts):
    """Steps of the size 1 over all ties along which more can go, with (INDEX, SIGN) as labels."""
    steps = []
    for index, (first, second, _) in enumerate(ties):
        if _room_left(ties, amounts, index, 1) > 0:
            steps.append((first, second, 1, (index, 1)))
        if _room_left(ties, amounts, index, -1) > 0:
            steps.append((second, first, 1, (index, -1)))
    return steps


def _room_left(ties, amounts, index, sign):
    return ties[index][2] - sign * amounts[index]
