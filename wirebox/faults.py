"""What calls raise, as values."""

from wirebox.errors import (
    Ambiguous, BadHandle, BadScope, Captive, Closed, Failed, Missing, NoLevel, Ring, TooDeep, TooMany,
)


def fault_of(act):
    """What a call of a function without parameters raises, as the name of the class and its field, or None."""
    try:
        act()
    except (Missing, Captive, Ring, TooDeep) as lost:
        return (type(lost).__name__, lost.path)
    except Ambiguous as unclear:
        return (type(unclear).__name__, unclear.names)
    except (TooMany, Closed) as bound:
        return (type(bound).__name__, bound.number)
    except (NoLevel, Failed, BadScope, BadHandle) as refused:
        return (type(refused).__name__, refused.given)
    return None
