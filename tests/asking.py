"""How the tests ask: what is handed in must stay as it was, and what is told must be the asker's own [2]."""

import contextlib
import copy
import signal


def called_once(function, *handed):
    """The answer, and whether what was handed in stayed as it was."""
    before = copy.deepcopy(handed)
    answer = function(*handed)
    return answer, handed == before


def spoil(thing):
    """Change each list in a thing, however deep it lies."""
    if isinstance(thing, (list, tuple)):
        for one in thing:
            spoil(one)
    if isinstance(thing, list):
        thing.reverse()
        thing.append("spoilt")


def asked(test, function, *handed):
    """The answer, borne out to be new, the same when asked again, and free of what was handed in."""
    before = handed
    handed = copy.deepcopy(before)
    answer = function(*handed)
    kept = copy.deepcopy(answer)
    test.assertEqual(handed, before, "what was handed in was changed")
    spoil(answer)
    test.assertEqual(handed, before, "what was told shares a list with what was handed in")
    again = function(*handed)
    test.assertEqual(again, kept, "the same asked again was told otherwise")
    spoil(handed)
    test.assertEqual(again, kept, "what was told hangs on what was handed in")
    test.assertEqual(function(*before), kept, "the same asked again was told otherwise")
    return kept


def refused(test, error, function, *handed):
    """The function refuses with just this error, and what was handed in stays as it was."""
    before = copy.deepcopy(handed)
    for again in range(2):
        with test.assertRaises(error) as caught:
            function(*handed)
        test.assertIs(type(caught.exception), error)
    test.assertEqual(handed, before, "what was handed in was changed")


@contextlib.contextmanager
def in_good_time(seconds):
    """What is done within fails where it takes longer than so many seconds."""

    def too_long(number, frame):
        raise AssertionError(f"it took longer than {seconds} seconds")

    earlier = signal.signal(signal.SIGALRM, too_long)
    signal.alarm(seconds)
    try:
        yield
    finally:
        signal.alarm(0)
        signal.signal(signal.SIGALRM, earlier)
