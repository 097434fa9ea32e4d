"""The link of a serial with its letters, as a bus keeps it.

It is a tuple (state, waiting, last, told): the state of the link, the letters that wait, the
letter taken last, None if none ever was, and the letters told.
"""

from pullsafe.links import PLUG, PULL, act_of, behind, is_ready, ready_events, start_of


def new_link(protocol):
    """Return the link of a serial that was never plugged before."""
    return (start_of(protocol), (), None, ())


def with_letter(kept, letter):
    """Return the link with one more letter that waits."""
    state, waiting, last, told = kept
    return (state, waiting + (letter,), last, told)


def can_go(protocol, kept, event):
    """Tell whether the event of a rule is ready, and a letter waits if it is to be taken."""
    if event == PLUG or event == PULL or not is_ready(protocol, kept[0], event):
        return False
    return act_of(protocol, event) != "take" or len(kept[1]) > 0


def link_behind(protocol, kept, event):
    """Return the link behind an event that can happen."""
    state, waiting, last, told = kept
    act = act_of(protocol, event)
    if act == "take":
        last = waiting[0]
        waiting = waiting[1:]
    if act == "tell" and last is not None:
        told = told + (last,)
    return (behind(protocol, state, event), waiting, last, told)


def changes_nothing(protocol, state, event):
    """Tell whether an event neither takes nor tells and leaves the state of the link as it was."""
    return act_of(protocol, event) not in ("take", "tell") and behind(protocol, state, event) == state


def first_event(protocol, kept):
    """Return the first event of a rule that can happen and changes something, or None."""
    for event in ready_events(protocol, kept[0]):
        if can_go(protocol, kept, event) and not changes_nothing(protocol, kept[0], event):
            return event
    return None
