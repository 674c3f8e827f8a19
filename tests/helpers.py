"""What several tests use."""


def check_raises(case, kind, attributes, call, *arguments, **named):
    """Check that the call raises just this class of error with these attributes."""
    try:
        returned = call(*arguments, **named)
    except Exception as error:
        case.assertIs(error.__class__, kind, repr(error))
        for name, value in attributes.items():
            held = getattr(error, name)
            case.assertEqual(held, value)
            case.assertIs(held.__class__, value.__class__)
        return
    case.fail(f"{kind.__name__} was not raised; returned {returned!r}")


def frozen(value):
    """Return what a value holds, down to integers and strings, as it is now."""
    if isinstance(value, (list, tuple)):
        return (value.__class__.__name__, tuple([frozen(part) for part in value]))
    if isinstance(value, dict):
        return ("dict", tuple([(frozen(key), frozen(part)) for key, part in value.items()]))
    if hasattr(value, "__dict__") and not callable(value):
        return (value.__class__.__name__, frozen(vars(value)))
    return (value.__class__.__name__, value)


def check_unchanged(case, call, *arguments, **named):
    """Call, check that no argument has changed, and return the result."""
    before = frozen((list(arguments), named))
    returned = call(*arguments, **named)
    case.assertEqual(before, frozen((list(arguments), named)))
    return returned
