"""Sums and searches that tests make on their own, without the modules of the package that they check."""


def lies(graph, name, part):
    return graph[name][1] in part and graph[name][2] in part


def fall_of(graph, rows, meeting, name):
    weights, offsets, _ = meeting
    _, source, target, change = graph[name]
    inside = [(counter, part) for counter, part in rows if lies(graph, name, part)]
    return offsets[source] - offsets[target] - sum(
        weights[counter, part] * dict(change).get(counter, 0) for counter, part in inside)


def effect_of(graph, names, meeting, row):
    counter, part = row
    return sum(meeting[2][name] * dict(graph[name][3]).get(counter, 0) for name in names if lies(graph, name, part))


def is_right(graph, names, rows, meeting):
    """Whether these are a meeting, by the sums of this test."""
    weights, offsets, amounts = meeting
    for state in graph.states:
        if sum(amounts[name] for name in names if graph[name][1] == state) != \
                sum(amounts[name] for name in names if graph[name][2] == state):
            return False
    pairs = [(fall_of(graph, rows, meeting, name), amounts[name]) for name in names]
    pairs += [(effect_of(graph, names, meeting, row), weights[row]) for row in rows]
    return all(one >= 0 and two >= 0 and (one > 0) != (two > 0) for one, two in pairs)


def written_out(items):
    row = []
    for item in items:
        round_trip = [item] if isinstance(item, str) else written_out(item[1])
        row.extend(round_trip if isinstance(item, str) or not round_trip else round_trip * item[0])
    return row


def sums_of(graph, row, start):
    """State, length, effect, needs and heights of a walk, step by step."""
    sums = dict.fromkeys(graph.counters, 0)
    low, high, state = dict(sums), dict(sums), start
    for name in row:
        _, source, target, change = graph[name]
        assert source == state
        state = target
        for counter, amount in change:
            sums[counter] += amount
        low = {counter: min(low[counter], sums[counter]) for counter in sums}
        high = {counter: max(high[counter], sums[counter]) for counter in sums}
    return state, len(row), sums, {counter: -low[counter] for counter in low}, high


def join(one, two):
    """The same for two walks, one behind the other: (length, effect, low, high, counts)."""
    return (one[0] + two[0], [a + b for a, b in zip(one[1], two[1])],
            [min(low, a + b) for low, a, b in zip(one[2], one[1], two[2])],
            [max(high, a + b) for high, a, b in zip(one[3], one[1], two[3])],
            {name: one[4][name] + two[4][name] for name in one[4]})


def long_sums(graph, items):
    """The same for items of any numbers: repeats are joined by doubling."""
    zeros = [0] * len(graph.counters)
    total = (0, zeros, zeros, zeros, dict.fromkeys(graph.names, 0))
    nothing = total
    for item in items:
        if isinstance(item, str):
            change = [dict(graph[item][3]).get(counter, 0) for counter in graph.counters]
            one = (1, change, [min(0, a) for a in change], [max(0, a) for a in change],
                   {name: int(name == item) for name in graph.names})
        else:
            one, power, left = nothing, long_sums(graph, item[1]), item[0]
            while left:
                if left & 1:
                    one = join(one, power)
                power, left = join(power, power), left >> 1
        total = join(total, one)
    return total


def parts_of(graph, names):
    """The components of these transitions, ascending, found by closing the relation "leads to"."""
    leads = {(graph[name][1], graph[name][2]) for name in names}
    inside = list(leads)
    for middle in graph.states:
        leads |= {(one, two) for one in graph.states for two in graph.states
                  if (one, middle) in leads and (middle, two) in leads}
    parts = {tuple(other for other in graph.states if other == state
                   or (state, other) in leads and (other, state) in leads) for state in graph.states}
    return tuple(sorted(part for part in parts if any(one in part and two in part for one, two in inside)))


def is_number_dict(value, keys, least=None):
    """Whether the value is a dict from just these keys to integers, which may have a least one."""
    return type(value) is dict and set(value) == set(keys) and all(
        type(number) is int and (least is None or number >= least) for number in value.values())


def is_meeting_of(graph, names, parts, value):
    """Whether the value is a meeting of the balance with these parts, by the sums of this file."""
    rows = tuple((counter, part) for counter in sorted(parts) for part in sorted(parts[counter]))
    if type(value) is not tuple or len(value) != 3:
        return False
    if not all(is_number_dict(told, keys, least) for told, keys, least in
               zip(value, (rows, graph.states, names), (0, None, 0))):
        return False
    return is_right(graph, names, rows, value)


def carried_by(meeting):
    return tuple(sorted(name for name, amount in meeting[2].items() if amount > 0))


def endless_by(graph, counters, paper):
    """What an endless paper shows, or None if it is none: the rounds are laid here."""
    names = graph.names
    for at, meeting in enumerate(paper if type(paper) is tuple else ()):
        parts = parts_of(graph, names)
        if not is_meeting_of(graph, names, {counter: parts for counter in counters}, meeting):
            return None
        carried = carried_by(meeting)
        if carried == names:
            gained = tuple(sorted({counter for (counter, _), weight in meeting[0].items() if weight == 0}))
            return (carried, gained) if at == len(paper) - 1 else None
        names = carried
    return None


def ranks_by(graph, paper):
    """The ranks that a ranks paper shows, or None if it is none."""
    counters, ranks = list(graph.counters), {}
    for at, told in enumerate(paper if type(paper) is tuple else ()):
        shown = endless_by(graph, counters, told)
        if shown is None:
            return None
        for thing in shown[0] + shown[1]:
            ranks.setdefault(thing, at)
        if not shown[1]:
            return ranks if at == len(paper) - 1 else None
        counters = [counter for counter in counters if counter not in shown[1]]
    return None


def levels_by(graph, free, paper):
    """What each level of a levels paper finds, or None if it is none; the levels are laid here."""
    kept, exponents, found = [graph.names], {}, []
    left = [counter for counter in graph.counters if counter not in free]
    for at, meeting in enumerate(paper if type(paper) is tuple else ()):
        level = at + 1
        parts = {counter: parts_of(graph, kept[level - exponents[counter]]) if counter in exponents
                 else (graph.states,) for counter in left}
        if not is_meeting_of(graph, kept[-1], parts, meeting):
            return None
        names = tuple(name for name in kept[-1] if meeting[2][name] == 0)
        counters = tuple(counter for counter in left if counter not in exponents
                         and meeting[0][counter, graph.states] > 0)
        found.append((names, counters))
        greatest = [max([exponents[thing] for thing in exponents if thing in things], default=0)
                    for things in (graph.counters, graph.names)]
        if not names and not counters and level >= sum(greatest):
            return found if level == len(paper) else None
        exponents.update(dict.fromkeys(names + counters, level))
        kept.append(carried_by(meeting))
    return None


def growths_by_papers(graph, paper):
    """The growths that a growth paper shows, by the sums of this file, or None if it is none."""
    if type(paper) is not tuple or len(paper) != 2 or ranks_by(graph, paper[0]) is None:
        return None
    ranks = ranks_by(graph, paper[0])
    found = levels_by(graph, ranks, paper[1])
    if found is None:
        return None
    told = {thing: ("beyond",) for thing in graph.counters + graph.names}
    told.update({thing: ("free", rank) for thing, rank in ranks.items()})
    for at, (names, counters) in enumerate(found):
        told.update(dict.fromkeys(names + counters, ("power", at + 1)))
    return told


def steps_from(graph, configuration, without=()):
    """The transitions that can be taken, and where they lead; the counters of `without` are not looked at."""
    state, loads = configuration
    for name, source, target, change in graph:
        if source == state:
            told = dict(change)
            new = tuple(None if counter in without else load + told.get(counter, 0)
                        for counter, load in zip(graph.counters, loads))
            if all(load is None or load >= 0 for load in new):
                yield name, (target, new)


def configurations(graph, size, without=(), limit=20000):
    """A dict from all configurations of runs of this size to their steps, or None if there are too many."""
    first = tuple(None if counter in without else size for counter in graph.counters)
    waiting = [(state, first) for state in graph.states]
    known = {}
    while waiting:
        here = waiting.pop()
        if here not in known:
            known[here] = list(steps_from(graph, here, without))
            waiting.extend(there for _, there in known[here])
            if len(known) > limit:
                return None
    return known


def numbers_in_order(known):
    """For each configuration the number of its component; what it leads to has no greater number."""
    met, low, numbers, stack, many = {}, {}, {}, [], 0
    for root in known:
        work = [] if root in met else [(root, iter(known[root]))]
        for here, _ in work:
            met[here] = low[here] = len(met)
            stack.append(here)
        while work:
            here, steps = work[-1]
            for _, there in steps:
                if there not in met:
                    met[there] = low[there] = len(met)
                    stack.append(there)
                    work.append((there, iter(known[there])))
                    break
                if there not in numbers:
                    low[here] = min(low[here], met[there])
            else:
                work.pop()
                for before, _ in work[-1:]:
                    low[before] = min(low[before], low[here])
                if low[here] == met[here]:
                    while here not in numbers:
                        numbers[stack.pop()] = many
                    many += 1
    return numbers


def greatest_numbers(graph, size, without=(), limit=20000):
    """A dict from things to their greatest numbers in runs of this size (None without one), or None for too many."""
    known = configurations(graph, size, without, limit)
    if known is None:
        return None
    numbers = numbers_in_order(known)
    told = {counter: max(loads[at] for _, loads in known)
            for at, counter in enumerate(graph.counters) if counter not in without}
    order = sorted(known, key=numbers.get)
    for name in graph.names:
        steps = [(here, there) for here in known for taken, there in known[here] if taken == name]
        if any(numbers[here] == numbers[there] for here, there in steps):
            told[name] = None
            continue
        best = {}
        for here in order:
            behind = [best.get(numbers[there], 0) + (taken == name) for taken, there in known[here]]
            best[numbers[here]] = max([best.get(numbers[here], 0)] + behind)
        told[name] = max(best.values())
    return told


def is_doubling_by(graph, free, value):
    """Whether the value is a doubling, by the sums of this file; the free things are given."""
    if type(value) is not tuple or len(value) != 2 or type(value[0]) is not dict or type(value[1]) is not tuple:
        return False
    amounts, counters = value
    if not set(amounts) <= set(graph.names) or not is_number_dict(amounts, amounts, 0):
        return False
    if not counters or not all(type(one) is str for one in counters) or sorted(set(counters)) != list(counters):
        return False
    if not set(counters) <= set(graph.counters) - set(free):
        return False
    for state in graph.states:
        if sum(amounts[name] for name in amounts if graph[name][1] == state) != \
                sum(amounts[name] for name in amounts if graph[name][2] == state):
            return False
    support = [name for name in amounts if amounts[name]]
    for counter in set(graph.counters) - set(free):
        if counter in counters:
            if sum(amounts[name] * dict(graph[name][3]).get(counter, 0) for name in support) <= 0:
                return False
        elif any(sum(amounts[name] * dict(graph[name][3]).get(counter, 0) for name in support
                     if lies(graph, name, part)) < 0 for part in parts_of(graph, support)):
            return False
    return True


def repeated_sums(one, many):
    """The same for many rounds of a walk, without doubling: only the first and the last round count."""
    if many == 0:
        return (0, [0] * len(one[1]), [0] * len(one[1]), [0] * len(one[1]), dict.fromkeys(one[4], 0))
    ahead = [(many - 1) * a for a in one[1]]
    return (many * one[0], [many * a for a in one[1]],
            [min(low, a + low) for low, a in zip(one[2], ahead)],
            [max(high, a + high) for high, a in zip(one[3], ahead)],
            {name: many * count for name, count in one[4].items()})


def quick_sums(graph, items):
    """The same as long_sums, also for numbers with very many digits."""
    zeros = [0] * len(graph.counters)
    total = (0, zeros, zeros, zeros, dict.fromkeys(graph.names, 0))
    for item in items:
        if isinstance(item, str):
            change = [dict(graph[item][3]).get(counter, 0) for counter in graph.counters]
            one = (1, change, [min(0, a) for a in change], [max(0, a) for a in change],
                   {name: int(name == item) for name in graph.names})
        else:
            one = repeated_sums(quick_sums(graph, item[1]), item[0])
        total = join(total, one)
    return total


def end_of(graph, items, state):
    """Where items lead from a state; None if they cannot be walked. Repeats are walked once, and have to lead back."""
    for item in items:
        if isinstance(item, str):
            if graph[item][1] != state:
                return None
            state = graph[item][2]
        elif item[1]:
            source = first_source(graph, item[1])
            if source is not None and end_of(graph, item[1], source) != source:
                return None
            if source is not None and source != state:
                return None
    return state


def first_source(graph, items):
    """The source of the first transition that is written in items, or None."""
    for item in items:
        source = graph[item][1] if isinstance(item, str) else first_source(graph, item[1])
        if source is not None:
            return source
    return None


def need_and_goal(graph, thing, size, recipe):
    """The greatest need of a recipe, and the greatest goal that it reaches from a size, if that is enough."""
    _, _, low, high, counts = quick_sums(graph, recipe.row)
    need = max([-least for least in low])
    if thing in counts:
        return need, counts[thing]
    return need, size + high[graph.counters.index(thing)]


def root_of(goal, exponent):
    """The greatest r with r ** exponent <= goal."""
    low, high = 0, 1 << (goal.bit_length() // exponent + 2)
    while high - low > 1:
        middle = (low + high) // 2
        low, high = (middle, high) if middle ** exponent <= goal else (low, middle)
    return low
