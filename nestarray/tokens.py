"""The tokens of a text, and whether they stand in form.

A token is a pair: where it begins, and where it ends (the position behind its last byte).
"""

BLANKS = (32, 9, 10, 13)
OPENING = 91
COLON = 58
CLOSING = 93
SIGNS = (91, 58, 93)
MINUS = 95
ZERO = 48
NINE = 57

AT_START = 0
AMONG_EXTENTS = 1
AMONG_ITEMS = 2
AT_END = 3


def is_digit(byte):
    return ZERO <= byte <= NINE


def blanks_end(text, start):
    position = start
    while position < len(text) and text[position] in BLANKS:
        position += 1
    return position


def digits_end(text, start):
    position = start
    while position < len(text) and is_digit(text[position]):
        position += 1
    return position


def digits_start(text, start):
    """Where the digits of the number that begins at start begin."""
    return start + 1 if text[start] == MINUS else start


def token_end(text, start):
    """Where the token that begins at start ends: start itself if no token begins there."""
    if text[start] in SIGNS:
        return start + 1
    first = digits_start(text, start)
    end = digits_end(text, first)
    if end == first:
        return start
    if text[first] == ZERO and end - start > 1:
        return start
    return end


def tokens_of(text):
    """The tokens in order; a last one without bytes stands where no token begins."""
    tokens = []
    start = blanks_end(text, 0)
    while start < len(text):
        end = token_end(text, start)
        tokens.append((start, end))
        if end == start:
            return tokens
        start = blanks_end(text, end)
    return tokens


def can_stand(place, byte):
    """Whether a token with this first byte can stand at the place."""
    if place == AT_START:
        return byte != COLON and byte != CLOSING
    if place == AMONG_EXTENTS:
        return byte == COLON or is_digit(byte)
    if place == AMONG_ITEMS:
        return byte != COLON
    return False


def go_past(places, byte):
    """Change the places by a token that can stand there.

    The last place is where the text is; those before it are where it comes back to as arrays end.
    """
    if byte == OPENING:
        places.append(AMONG_EXTENTS)
    elif byte == COLON:
        places[-1] = AMONG_ITEMS
    elif byte == CLOSING:
        places.pop()
    if len(places) == 1:
        places[0] = AT_END


def fault_position(text, tokens):
    """Where the text leaves the form, its length if it ends too early, None if it's in form."""
    places = [AT_START]
    for start, end in tokens:
        if end == start or not can_stand(places[-1], text[start]):
            return start
        go_past(places, text[start])
    return None if places[-1] == AT_END else len(text)
