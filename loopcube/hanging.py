"""What hangs together: names that stand in one group, and those of groups that share a name."""


def hung_together(groups):
    """For each name of the groups a number: alike for those that hang together."""
    met = {}
    for k, group in enumerate(groups):
        for name in group:
            met.setdefault(name, []).append(k)
    marks = {}
    for start in met:
        if start not in marks:
            mark_from(groups, met, marks, start)
    return marks


def mark_from(groups, met, marks, start):
    """All that hangs together with a name gets one number that is not yet used."""
    mark = len(marks)
    marks[start] = mark
    waiting = [start]
    while waiting:
        reached = waiting.pop()
        for k in met[reached]:
            for name in groups[k]:
                if name not in marks:
                    marks[name] = mark
                    waiting.append(name)
