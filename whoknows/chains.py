"""Chains of links."""


def chains_from(links, start):
    """For start and each state to which a chain leads from it, in the order come to, its shortest chain.

    A chain is, for each of its links, the agent and the state to which it leads; that of start is empty.
    """
    ordered = sorted(links)
    chains = {start: []}
    waiting = [start]
    place = 0
    while place < len(waiting):
        here = waiting[place]
        place = place + 1
        for agent, begin, end in ordered:
            if begin == here and end not in chains:
                chains[end] = chains[here] + [agent, end]
                waiting.append(end)
    return chains


def chain_out_of(links, start, kept):
    """The first chain of one link or more from start to a state that is none of those kept, or None."""
    ordered = sorted(links)
    chains = chains_from(links, start)
    # The next to last state counts first, in the order come to; a chain may lead back to start.
    for here, chain in chains.items():
        for agent, begin, end in ordered:
            if begin == here and end not in kept:
                return chain + [agent, end]
    return None
