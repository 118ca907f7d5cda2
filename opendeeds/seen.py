"""Books of runs that were seen, and what may be behind them in each book with these runs."""

from opendeeds.books import check_count
from opendeeds.errors import BadDone, BadRefused, BadSeen
from opendeeds.families import book_of_family, unions_of_beginnings
from opendeeds.kinds import is_deed_row, is_deed_set, is_integer
from opendeeds.masks import deeds_of, mask_of

MOST_SEEN = 30


def check_seen(count, seen):
    """Raise BadNumber for no number of deeds, BadSeen for what is no seen runs of so many."""
    check_count(count)
    if type(seen) != tuple or not 1 <= len(seen) <= MOST_SEEN:
        raise BadSeen(f"this is no tuple of one to {MOST_SEEN} runs")
    if not all([is_deed_row(run, count) for run in seen]):
        raise BadSeen("these are no runs of unlike deeds")


def least_seen(count, seen):
    """The least book of which all seen runs are runs."""
    check_seen(count, seen)
    return book_of_family(count, unions_of_beginnings(seen))


def is_refusal(thing, count):
    """Whether thing is a tuple of a run and a deed, perhaps one of the run."""
    if type(thing) != tuple or len(thing) != 2:
        return False
    run, deed = thing
    return is_deed_row(run, count) and is_integer(deed) and 0 <= deed < count


def check_refused(count, refused):
    """Raise BadRefused for what is no tuple of at most thirty runs and deeds refused behind them."""
    if type(refused) != tuple or len(refused) > MOST_SEEN:
        raise BadRefused(f"this is no tuple of at most {MOST_SEEN} runs and deeds")
    if not all([is_refusal(told, count) for told in refused]):
        raise BadRefused("these are no runs and deeds")


def can_refuse(count, seen, refused):
    """Whether a book with all seen and told runs may refuse each deed behind the run told with it."""
    check_seen(count, seen)
    check_refused(count, refused)
    family = unions_of_beginnings([*seen, *[run for run, _ in refused]])
    # Behind a state a deed may be done just if with it, too, it is a state.
    done = [deed not in run and (mask_of(run) | (1 << deed)) in family for run, deed in refused]
    return not any(done)


def sure_next(count, seen, done):
    """The ascending list of the deeds that may be done behind a done set in each book with the runs."""
    check_seen(count, seen)
    if not is_deed_set(done, count):
        raise BadDone("this is no done set of so many deeds")
    left = ((1 << count) - 1) ^ mask_of(done)
    more = [deeds_of(state & left) for state in unions_of_beginnings(seen)]
    return sorted(set([deeds[0] for deeds in more if len(deeds) == 1]))
