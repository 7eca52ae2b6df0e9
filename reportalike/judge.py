"""One judge for all PROMISES: whether they stand, PAPERS against them, and what they lean on."""

from reportalike.asked import can_fail
from reportalike.branches import is_odd_world, odd_world
from reportalike.changes import is_spared_paper, may_be_spared, spared_paper
from reportalike.deeds import failing_world, is_failing_world
from reportalike.errors import NoName, NoNumber, NoPaper
from reportalike.forms import is_tuple_of, tupled
from reportalike.free import alike, apart_paper, is_apart_paper
from reportalike.groups import classes_at
from reportalike.joins import at_hand, is_none_paper, none_paper
from reportalike.labels import hit_paper, is_hit_paper, is_kind_paper, is_right_hit, is_right_kind, kind_paper
from reportalike.letters import bad_order, is_bad_order
from reportalike.liars import is_other_world, other_world
from reportalike.orders import is_other_paper, is_wrong_paper, other_paper, right_for_all, same_for_all, wrong_paper
from reportalike.plans import is_sound, is_unsound, unsound
from reportalike.readers import is_told, is_two_worlds, two_worlds
from reportalike.runs import is_spot_form
from reportalike.trust import is_wrong_world, wrong_world
from reportalike.turned import apart_at, is_apart_at, tell_alike

# Those whose second argument is seen, and those that have none.
SEEING = ("alike", "orders", "right", "hit", "needed", "hand", "moment", "letters", "told", "cleared", "holds")
BLIND = ("sound", "plans", "kind", "ends")


def opened(promise):
    """The word and the arguments of the PROMISE; raises NoName if there is no such word."""
    word, *arguments = promise
    if word not in SEEING and word not in BLIND:
        raise NoName(word)
    return word, arguments


def stands(promise):
    word, arguments = opened(promise)
    if word == "sound":
        return is_sound(*arguments)
    if word == "plans":
        return tell_alike(*arguments)
    if word == "alike":
        return alike(*arguments)
    if word == "orders":
        return same_for_all(*arguments)
    if word == "right":
        return right_for_all(*arguments)
    if word == "hit":
        return is_right_hit(*arguments)
    if word == "kind":
        return is_right_kind(*arguments)
    if word == "needed":
        return not may_be_spared(*arguments)
    if word == "hand":
        return len(at_hand(*arguments)) > 0
    if word == "ends":
        return not can_fail(*arguments)
    if word == "moment":
        return odd_world(*arguments) is None
    if word == "letters":
        return bad_order(*arguments) is None
    if word == "told":
        return is_told(*arguments)
    if word == "cleared":
        return wrong_world(*arguments) is None
    return other_world(*arguments) is None


def paper(promise):
    word, arguments = opened(promise)
    if word == "sound":
        return unsound(*arguments)
    if word == "alike":
        return apart_paper(*arguments)
    if word == "orders":
        return other_paper(*arguments)
    if word == "right":
        return wrong_paper(*arguments)
    if word == "hit":
        return hit_paper(*arguments)
    if word == "kind":
        return kind_paper(*arguments)
    if word == "needed":
        return spared_paper(*arguments)
    if word == "hand":
        return none_paper(*arguments)
    found = thing_against(word, arguments)
    if found is None:
        raise NoPaper()
    return found


def thing_against(word, arguments):
    """A PAPER of one of the other words; None if there is none."""
    if word == "plans":
        return apart_at(*arguments)
    if word == "ends":
        return failing_world(*arguments)
    if word == "moment":
        return odd_world(*arguments)
    if word == "letters":
        return bad_order(*arguments)
    if word == "told":
        return two_worlds(*arguments)
    if word == "cleared":
        return wrong_world(*arguments)
    return other_world(*arguments)


def is_paper(promise, thing):
    word, arguments = opened(promise)
    if word == "sound":
        return is_unsound(*arguments, thing)
    if word == "plans":
        return is_apart_at(*arguments, thing)
    if word == "alike":
        return is_apart_paper(*arguments, thing)
    if word == "orders":
        return is_other_paper(*arguments, thing)
    if word == "right":
        return is_wrong_paper(*arguments, thing)
    if word == "hit":
        return is_hit_paper(*arguments, thing)
    if word == "kind":
        return is_kind_paper(*arguments, thing)
    if word == "needed":
        return is_spared_paper(*arguments, thing)
    if word == "hand":
        return is_none_paper(*arguments, thing)
    if word == "ends":
        return is_failing_world(*arguments, thing)
    if word == "moment":
        return is_odd_world(*arguments, thing)
    if word == "letters":
        return is_bad_order(*arguments, thing)
    if word == "told":
        return is_two_worlds(*arguments, thing)
    if word == "cleared":
        return is_wrong_world(*arguments, thing)
    return is_other_world(*arguments, thing)


def seen_of(promise):
    """The SEEN pairs of the PROMISE."""
    word, arguments = opened(promise)
    return arguments[1] if word in SEEING else ()


def without_seen(promise, places):
    pairs = seen_of(promise)
    for place in places:
        if not 0 <= place < len(pairs):
            raise NoNumber(place)
    told = tupled(promise)
    if told[0] in BLIND:
        return told
    left = [pair for place, pair in enumerate(told[2]) if place not in places]
    return (*told[:2], tuple(left), *told[3:])


def leans_on(promise):
    # What is raised for the PROMISE itself comes first.
    stands(promise)
    places = [place for place, _ in enumerate(seen_of(promise))]
    return tuple([place for place in places if not stands(without_seen(promise, (place,)))])


def falls_at(promise, turns):
    left = [without_seen(promise, turns[:many]) for many in range(len(turns) + 1)]
    for many, promised in enumerate(left):
        if not stands(promised):
            return many
    return None


class Ways:
    """The ways down between SPOTS of RUNS; raises NoSpot for the first SPOT in seen, then in some, that is none."""

    def __init__(self, runs, seen, some):
        links, self.table = classes_at(runs, tupled(seen), some)
        self.made = links.made

    def goes_on(self, pair):
        """Whether one METHOD made both of as many reads."""
        one, other = pair
        if one not in self.made or other not in self.made:
            return False
        (first, reads), (second, more) = self.made[one], self.made[other]
        return first == second and len(reads) == len(more)

    def behind(self, pair):
        """The pairs that may come next, if it goes on."""
        one, other = pair
        return [both for both in zip(self.made[one][1], self.made[other][1]) if self.are_apart(both)]

    def are_apart(self, pair):
        return self.table[pair[0]] != self.table[pair[1]]


def blame(runs, seen, one, other):
    start = tupled((one, other))
    ways = Ways(runs, seen, start)
    # Of each pair that is come to the least way there, all of one length, ascending; a longer one is never better.
    reached = [(start,)] if ways.are_apart(start) else []
    met = {start: True}
    while reached:
        ended = [way for way in reached if not ways.goes_on(way[-1])]
        if ended:
            return ended[0]
        longer = sorted([(*way, pair) for way in reached for pair in ways.behind(way[-1])])
        reached = []
        for way in longer:
            if way[-1] not in met:
                met[way[-1]] = True
                reached.append(way)
    return None


def is_blame(runs, seen, one, other, thing):
    start = tupled((one, other))
    ways = Ways(runs, seen, start)
    if not isinstance(thing, tuple) or not thing or not all([is_tuple_of(pair, 2) for pair in thing]):
        return False
    if not all([is_spot_form(spot) for pair in thing for spot in pair]):
        return False
    if thing[0] != start or not ways.are_apart(start):
        return False
    for pair, another in zip(thing, thing[1:]):
        if not ways.goes_on(pair) or another not in ways.behind(pair):
            return False
    return not ways.goes_on(thing[-1])
