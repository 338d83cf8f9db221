"""Ways by names from some nodes to others."""


def reached(kids, starts):
    """All nodes that are come to from the starts, these too, rising; kids is a dict from nodes to lists of nodes."""
    seen = {start: True for start in starts}
    ahead = list(seen)
    while ahead:
        node = ahead.pop()
        for kid in kids.get(node, ()):
            if kid not in seen:
                seen[kid] = True
                ahead.append(kid)
    return sorted(seen)
