"""LOTS of WORDS, how they lead to one another, and the rings of LOTS [17].

nexts, in here, has for each NAME the list of its unlike calls. LOTS that lead to one another are told by their
places in a list, that of the WORD () having place 0; the LOT () is left out.
"""

from unwound.programs import leaves_of
from unwound.terms import calls_in


def calls_of_names(rules):
    """For each NAME: the list, ascending, of its unlike calls."""
    return [sorted({call for leaf in leaves_of(rule) for call in calls_in(leaf)}) for rule in rules]


def _closed(nexts, pairs):
    """The LOT with pairs, and with the calls of each NAME that is called at its WORD itself."""
    found, waiting = {pair: True for pair in pairs}, list(pairs)
    while waiting:
        name, rest = waiting.pop()
        for call in nexts[name] if not rest else ():
            if call not in found:
                found[call] = True
                waiting.append(call)
    return tuple(sorted(found))


def lot_behind(nexts, lot, word):
    """The LOT to which lot leads by word."""
    for step in word:
        if not lot:
            return ()
        lot = _closed(nexts, [(name, rest[1:]) for name, rest in lot if rest[:1] == (step,)])
    return lot


def lot_of_word(nexts, word):
    """The LOT of word."""
    return lot_behind(nexts, _closed(nexts, [(0, ())]), word)


def steps_on(lot):
    """The list, ascending, of the STEPS by which lot leads to a LOT that is not ()."""
    return sorted({rest[0] for name, rest in lot if rest})


class Lots:
    """The LOTS of a PROGRAM, at most one more than most of them."""

    def __init__(self, nexts, most):
        self.lots = [lot_of_word(nexts, ())]
        self.onward = []
        self.most = most
        places = {self.lots[0]: 0}
        while len(self.onward) < len(self.lots) and not self.are_too_many():
            lot, led_to = self.lots[len(self.onward)], {}
            for step in steps_on(lot):
                then = lot_behind(nexts, lot, (step,))
                if then not in places:
                    places[then] = len(self.lots)
                    self.lots.append(then)
                led_to[step] = places[then]
            self.onward.append(led_to)

    def are_too_many(self):
        """True if there are more than most."""
        return len(self.lots) > self.most

    def calls_by_length(self, n):
        """The list with, for each number of STEPS to n, how many calls there are with so long a WORD."""
        ending = [len([name for name, rest in lot if not rest]) for lot in self.lots]
        found, row = [], {0: 1}
        for _ in range(n + 1):
            found.append(sum([row[place] * ending[place] for place in row]))
            later = {}
            for place in row:
                for then in self.onward[place].values():
                    later[then] = later.get(then, 0) + row[place]
            row = later
        return found


class Rings:
    """The rings in which LOTS lead to one another."""

    def __init__(self, lots):
        self.onward = lots.onward
        self.after = [self.reached(place) for place in range(len(self.onward))]

    def reached(self, place):
        """A dict of the places to which one comes from place by a STEP or more."""
        found, waiting = {}, [place]
        while waiting:
            for then in self.onward[waiting.pop()].values():
                if then not in found:
                    found[then] = True
                    waiting.append(then)
        return found

    def steps_round(self, place):
        """The list of the STEPS from place by which one can come round to it."""
        led_to = self.onward[place]
        return [step for step in led_to if place in self.after[led_to[step]]]

    def parting_place(self):
        """The first place from which one comes round by two unlike STEPS; None if there is none."""
        for place in range(len(self.onward)):
            if len(self.steps_round(place)) > 1:
                return place
        return None

    def words_round(self, place):
        """The list of WORDS, one for each STEP by which one can come round to place."""
        led_to = self.onward[place]
        return [(step,) + self.word_between(led_to[step], place) for step in self.steps_round(place)]

    def word_between(self, first, last):
        """A shortest WORD that leads from the place first to the place last."""
        words, row = {first: ()}, [first]
        while last not in words:
            later = []
            for place in row:
                for step, then in self.onward[place].items():
                    if then not in words:
                        words[then] = words[place] + (step,)
                        later.append(then)
            row = later
        return words[last]

    def heads(self):
        """The list of the least places of the rings, each behind those of the rings to which it leads."""
        found = [
            place for place, after in enumerate(self.after)
            if place in after and place == min([other for other in after if place in self.after[other]])]
        # What leads to a ring leads to all to which that leads, and to more.
        return sorted(found, key=lambda place: len(self.after[place]))

    def most_heads(self, heads):
        """The longest list of places of heads, each of which leads to the next one; of rings alone."""
        best = {}
        for place in heads:
            further = [best[other] for other in best if other in self.after[place]]
            best[place] = [place] + max(further, key=len, default=[])
        return max(best.values(), key=len, default=[])

    def lengths(self):
        """The list of the lengths of rings, each as often as there are such rings one behind another at most;
        from each place one comes round in one way."""
        by_length = {}
        for place in self.heads():
            by_length.setdefault(len(self.words_round(place)[0]), []).append(place)
        return [length for length in by_length for _ in self.most_heads(by_length[length])]
