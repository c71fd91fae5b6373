"""Words of a lot told apart by what they leave to the other rows, wherever they stand.

A profile is a pair (rows that have letters, rests): of words of the lot that
follow a spot it tells, for each spot, which rest is left there, None where
these rows have ended. Words are read from their ends on: what stands ahead of words with one
profile makes others with one profile.
"""

from wholewalks.errors import TooMany
from wholewalks.rests import Rests
from wholewalks.spots import FarSpots, Spots


class Profiles:
    """The profiles of words of a lot, as far as they need be found, so many at most if most is not None.

    self.far is None if there are finitely many sorts. Otherwise it is a pair
    (profile, spot): words of any length lead to the spot, and words of the
    profile leave no tail there. Words that lead there in many places leave a
    rest that becomes a tail in no fewer places, so there are endlessly many sorts.
    """

    def __init__(self, halves, most):
        self.halves = halves
        self.rests = Rests(halves)
        self.spots = Spots(halves)
        self.far_spots = FarSpots(self.spots)
        self.order = []
        self.numbers = {}
        self.origins = []
        self.ahead = []
        self.sorts = {}
        self.far = None
        self.put((0, tuple([self.rests.tails[standing, mask] for standing, _, mask in self.spots.order])), None)
        while self.far is None and len(self.ahead) < len(self.order):
            if most is not None and len(self.order) > most:
                raise TooMany(most)
            self.find_ahead(len(self.ahead))

    def put(self, profile, origin):
        """The number of a profile, which comes of its origin, a pair (reading, profile behind it)."""
        if profile in self.numbers:
            return self.numbers[profile]
        number = len(self.order)
        self.numbers[profile] = number
        self.order.append(profile)
        self.origins.append(origin)
        self.sorts.setdefault(profile[1][0], number)
        for spot, rest in enumerate(profile[1]):
            if rest is not None and rest >= self.rests.tail_count and self.far_spots.is_far[spot] and self.far is None:
                self.far = (number, spot)
        return number

    def find_ahead(self, at):
        """Finds the profiles of words that have one more reading ahead."""
        found = []
        for one in range(len(self.halves.ones.ended)):
            number = None
            if one > 0 and self.order[at][0] & self.halves.ones.ended[one] == 0:
                number = self.put(self.profile_ahead(self.order[at], one), (one, at))
            found.append(number)
        self.ahead.append(found)

    def profile_ahead(self, profile, one):
        """The profile of words that have one more reading ahead."""
        rests = profile[1]
        found = []
        for leads in self.spots.leads:
            number = None
            if leads[one] is not None:
                flag = self.rests.known[rests[leads[one][0]]][0]
                nexts = [rests[target] if target is not None else None for target in leads[one][1:]]
                number = self.rests.number((flag, tuple(nexts)))
            found.append(number)
        letters = (1 << self.halves.ones.rows) - 1 - self.halves.ones.ended[one]
        return (letters, tuple(found))

    def readings(self, number):
        """The readings of the first words found that have a profile."""
        found = []
        while self.origins[number] is not None:
            one, number = self.origins[number]
            found.append(one)
        return found

    def some_words(self, many):
        """Words that are each of another sort, so many, or fewer if there are no more sorts."""
        found = [self.readings(number) for number in self.sorts.values()]
        if self.far is not None and len(found) < many:
            found.extend(self.more_readings(many - len(found)))
        return [self.halves.ones.words(readings) for readings in found[:many]]

    def more_readings(self, many):
        """Readings that are each of another sort, so many, where there are endlessly many sorts."""
        number, spot = self.far
        lead, ring, rest = self.far_spots.readings_to(spot)
        known = {sort: True for sort in self.sorts}
        profile = self.behind(rest, self.order[number])
        readings = rest + self.readings(number)
        found = []
        while len(found) < many:
            sort = self.behind(lead, profile)[1][0]
            if sort not in known:
                known[sort] = True
                found.append(lead + readings)
            profile = self.behind(ring, profile)
            readings = ring + readings
        return found

    def behind(self, readings, profile):
        """The profile of words that have these readings ahead."""
        for one in readings[::-1]:
            profile = self.profile_ahead(profile, one)
        return profile
