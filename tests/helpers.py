"""What several tests use."""

import copy




def check_raises(case, kind, attributes, call, *arguments, **named):
    """Check that the call raises just this class of error with these attributes."""
    try:
        returned = call(*arguments, **named)
    except Exception as error:
        case.assertIs(error.__class__, kind, repr(error))
        for name, value in attributes.items():
            held = getattr(error, name)
            case.assertEqual(held, value)
            case.assertIs(held.__class__, value.__class__)
        return
    case.fail(f"{kind.__name__} was not raised; returned {returned!r}")


def check_unchanged(case, call, *arguments, **named):
    """Call with copies kept aside, check that no argument has changed, and return the result."""
    before = copy.deepcopy((arguments, named))
    returned = call(*arguments, **named)
    case.assertEqual(before, (arguments, named))
    return returned
