"""A board: RUNS that are told one by one, what was seen of them, and deeds that can be taken back."""

from reportalike.errors import NoNumber, NothingDone
from reportalike.forms import as_set
from reportalike.free import alike, apart_paper, classes_of, free_world
from reportalike.runs import new_run, pair_of, spot_table


class Board:
    """RUNS and SEEN pairs of them; at first there are none of either."""

    def __init__(self):
        self._runs = ()
        self._seen = ()
        self._past = []

    def __len__(self):
        return len(self._runs)

    def __eq__(self, other):
        return isinstance(other, Board) and self._runs == other._runs and self._seen == other._seen

    def runs(self):
        return self._runs

    def seen(self):
        return self._seen

    def classes(self):
        return classes_of(self._runs, self._seen)

    def alike(self, one, other):
        return alike(self._runs, self._seen, one, other)

    def world(self):
        return free_world(self._runs, self._seen)

    def paper(self, one, other):
        return apart_paper(self._runs, self._seen, one, other)

    def tell(self, plan, variant, counts):
        run = new_run(plan, variant, counts)
        self._do((*self._runs, run), self._seen)
        return len(self._runs) - 1

    def recount(self, place, counts):
        plan, variant, _ = self._run_at(place)
        return self._put(place, new_run(plan, variant, counts))

    def turn(self, place, variant, counts):
        plan, _, _ = self._run_at(place)
        return self._put(place, new_run(plan, variant, counts))

    def replan(self, place, plan):
        _, variant, counts = self._run_at(place)
        return self._put(place, new_run(plan, variant, counts))

    def see(self, one, other):
        were_alike = alike(self._runs, self._seen, one, other)
        pair = pair_of(one, other)
        more = [] if pair[0] == pair[1] else [pair]
        self._do(self._runs, as_set([*self._seen, *more]))
        return were_alike

    def doubt(self, place):
        if not 0 <= place < len(self._seen):
            raise NoNumber(place)
        pair = self._seen[place]
        self._do(self._runs, (*self._seen[:place], *self._seen[place + 1:]))
        return pair

    def undo(self):
        if not self._past:
            raise NothingDone()
        self._runs, self._seen = self._past.pop()

    def deeds(self):
        return len(self._past)

    def twin(self):
        other = Board()
        other._runs, other._seen, other._past = self._runs, self._seen, list(self._past)
        return other

    def _do(self, runs, seen):
        """A deed, behind which there are these."""
        self._past.append((self._runs, self._seen))
        self._runs, self._seen = runs, seen

    def _run_at(self, place):
        if not 0 <= place < len(self._runs):
            raise NoNumber(place)
        return self._runs[place]

    def _put(self, place, run):
        """Puts the RUN in this place; returns the set of the SEEN pairs that fall."""
        runs = (*self._runs[:place], run, *self._runs[place + 1:])
        table = spot_table(runs)
        left = tuple([pair for pair in self._seen if pair[0] in table and pair[1] in table])
        fallen = tuple([pair for pair in self._seen if pair not in left])
        self._do(runs, left)
        return fallen
