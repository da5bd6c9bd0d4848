"""Deeds done at a store by their rows."""


def do_deed(store, deed):
    """What a store tells of the deed of a row; or as it refuses."""
    word, *given = deed
    if word == "turn":
        return store.turn(*given)
    if word == "settle":
        return store.settle(*given)
    if word == "read":
        return store.read(*given)
    if word == "latest":
        return store.latest(*given)
    if word == "forget":
        return store.forget(*given)
    if word == "branch":
        return store.branch(*given)
    if word == "on":
        return store.write_on(*given)
    if word == "bring":
        return store.bring(*given)
    return do_house_deed(store, word, given)


def do_house_deed(store, word, given):
    """What a store tells of a deed of houses, or of a write; or as it refuses."""
    if word == "stand":
        return store.stand(*given)
    if word == "fall":
        return store.fall(*given)
    if word == "rise":
        return store.rise(*given)
    if word == "send":
        return store.send(*given)
    if word == "part":
        return store.part(*given)
    if word == "meet":
        return store.meet(*given)
    return store.write(*given)
