"""Which places can be reached from the stores over some roads."""

from lastroads.instance import other_end


def reached_places(stores, roads):
    reached = list(stores)
    waiting = [place for place in range(len(stores)) if stores[place] == 1]
    while waiting:
        here = waiting.pop()
        for road in roads:
            there = other_end(road, here)
            if there is not None and reached[there] == 0:
                reached[there] = 1
                waiting.append(there)
    return [place for place in range(len(reached)) if reached[place] == 1]
