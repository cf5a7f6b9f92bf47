"""What several tests need: point 2's check, and samples."""

import copy

SIXTY = int("9" * 60)
# More figures than Python writes out, as a number may have that was told.
ENDLESS = 10 ** 5000


def changed(value):
    """Changes a list in place, as far as it can be changed."""
    if isinstance(value, list):
        value.reverse()
        value.append("changed")
        value.pop(0)


def check_own(case, function, *handed):
    """Point 2: nothing handed in is changed, and what is told is the asker's own."""
    before = copy.deepcopy(handed)
    told = function(*handed)
    case.assertEqual(handed, before)
    kept = copy.deepcopy(told)
    for value in handed:
        changed(value)
    case.assertEqual(told, kept)
    changed(told)
    case.assertEqual(function(*before), kept)


def check_refused(case, refusal, function, *handed):
    """The refusal's very class is raised, and nothing handed in is changed."""
    before = copy.deepcopy(handed)
    with case.assertRaises(refusal) as caught:
        function(*handed)
    case.assertEqual(caught.exception.__class__, refusal)
    case.assertEqual(handed, before)
