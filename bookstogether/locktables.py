"""The table of the locks that users hold."""

from bookstogether.lockneeds import meet


class LockTable:
    """The locks, the ages and the waiting of users under a book."""

    def __init__(self, book):
        self.book = book
        # For each user the needs that it holds, as the keys of a dict, which keeps their order.
        self.locks = {}
        self.ages = {}
        self.next_age = 0
        # For each user that waits the users for which it waits.
        self.blockers = {}

    def ask(self, user, needs):
        """Ask for needs and return the answer."""
        others = self.clashing(user, needs)
        self.blockers.pop(user, None)
        if len(others) == 0:
            self._grant(user, needs)
            return "granted"
        if self.book.clash == "wait" or (self.book.clash == "age" and self._is_older(user, others)):
            self.blockers[user] = others
            return "waits"
        return "back"

    def _grant(self, user, needs):
        """Have the user hold the needs besides its locks."""
        locks = self.locks.setdefault(user, {})
        for need in needs:
            locks[need] = True
        if user not in self.ages:
            self.ages[user] = self.next_age
            self.next_age += 1

    def _is_older(self, user, others):
        """Tell whether the user has an age less than those of all the others."""
        return user in self.ages and all([self.ages[user] < self.ages[other] for other in others])

    def turn_over(self, user):
        """End a turn of the user."""
        if self.book.lasts == "turn":
            self._drop(user)

    def release(self, user):
        """Drop the locks and the age of the user."""
        self._drop(user)
        self.ages.pop(user, None)
        self.blockers.pop(user, None)

    def _drop(self, user):
        """Drop the locks of the user, so that nobody waits for it any more."""
        self.locks.pop(user, None)
        for waiter, others in list(self.blockers.items()):
            self.blockers[waiter] = tuple([other for other in others if other != user])

    def clashing(self, user, needs):
        """Return the users whose locks meet the needs, ascending."""
        others = [other for other in sorted(list(self.locks)) if other != user]
        return tuple([other for other in others if meet(needs, self.held(other))])

    def held(self, user):
        """Return the needs that the user holds, in the order in which they were granted."""
        return tuple(self.locks.get(user, {}))

    def age(self, user):
        """Return the age of the user, or None."""
        return self.ages.get(user, None)

    def waiting(self, user):
        """Return the users for which the user waits, ascending."""
        return self.blockers.get(user, ())

    def ring(self):
        """Return the shortest ring of users that wait for each other, or the empty tuple."""
        pairs = [(first, second) for first in sorted(list(self.blockers)) for second in self.waiting(first)]
        for first, second in pairs:
            if first < second and (second, first) in pairs:
                return (first, second)
        for first, second in pairs:
            for third in self.waiting(second):
                if first < min(second, third) and (third, first) in pairs:
                    return (first, second, third)
        return ()
