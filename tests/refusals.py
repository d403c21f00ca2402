"""A test that something is refused with one class of the refusals and with no other."""

from cutway.errors import RecordError


def check_refused(test, refusal, call, *handed_in):
    with test.assertRaises(RecordError) as caught:
        call(*handed_in)
    # A class beneath the one asked for would be caught as well, so the very class is looked at.
    test.assertIs(caught.exception.__class__, refusal, handed_in)
    return caught.exception
