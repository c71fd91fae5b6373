"""How deep programs look into rows, and which rows their hands follow for ever."""

from wholewalks.contents import least_place, letters_within, need_contents
from wholewalks.errors import NoBound
from wholewalks.rounds import Turn
from wholewalks.walking import ENDS, Walking


class Winding(Walking):
    """A run of a program that tells its places only as far as they tell how it goes on."""

    def state(self):
        """For each hand its open walks, with least places."""
        return [[(row, least_place(self.contents[row], place)) for row, place in walks] for walks in self.walks]


def depths(program, contents):
    """For each row how many letters are looked at in the whole run, None if ever more."""
    winding, rows = wound(program, contents)
    found = [letters_within(content, far) for content, far in zip(contents, winding.far)]
    return tuple([None if row in rows else many for row, many in enumerate(found)])


def followed(program, contents):
    """For each hand the row of which it looks at ever more letters, None if there is none."""
    _, rows = wound(program, contents)
    return rows


def wound(program, contents):
    """A run led till it has looked at all that it ever looks at but of followed rows, and these rows, for each hand."""
    if program.depth is None:
        raise NoBound()
    need_contents(program, contents)
    winding = Winding(program, contents, False)
    deeds = deeds_round(winding)
    if deeds is None:
        return (winding, (None,) * len(winding.walks))
    return (winding, rows_followed(winding, deeds))


def deeds_round(winding):
    """Leads a run till it stands as it stood before, and tells so many deeds ago; None if it is over first."""
    turn = Turn(winding)
    while True:
        event = winding.deed()
        if event is not None and event[0] in ENDS:
            return None
        if turn.is_round():
            return turn.deeds


def rows_followed(winding, deeds):
    """Leads a run round once more, and tells for each hand which of its open walks has gone further.

    Only the innermost one of those that stay open can have. The walks within
    it are each begun and over within two rounds, so they go no deeper later on.
    """
    walks = [list(held) for held in winding.walks]
    low = [len(held) for held in walks]
    for _ in range(deeds):
        winding.deed()
        low = [min(least, len(held)) for least, held in zip(low, winding.walks)]
    found = []
    for hand, least in enumerate(low):
        row = None
        if least > 0 and walks[hand][least - 1] != winding.walks[hand][least - 1]:
            row = walks[hand][least - 1][0]
        found.append(row)
    return tuple(found)
