"""What a wait would bring."""


def events(house, amount, *, by=None):
    """Yield the events that such a wait would return now; the house stays as it is."""
    twin = house.copy()
    coming = twin.wait(amount, by=by)
    for event in coming:
        yield event
