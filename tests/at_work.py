"""Hands at work, apart and together: the deeds are told by a number, so they are the same each time."""

from random import Random

from shelfmark.hands import Hand


def same_hand(hand):
    """Another hand of the same number that knows the same."""
    letters, hands = hand.state()[:2]
    other = Hand(letters, hands, hand.number())
    other.lay(hand.state())
    return other


def all_of(letters, hands):
    return [Hand(letters, hands, number) for number in range(hands)]


def standing(state):
    """The things of a state that are not taken, with their marks."""
    return [(mark, thing) for mark, thing in state[3] if mark not in state[4]]


def changed_by_the_asker(state):
    """Do to a state's lists whatever can be done to them."""
    for rows in state[2]:
        rows.reverse()
        rows.append(("b", "b"))
    state[2].append([("b", None)])
    state[3].clear()
    state[4].append("b")


class Work:
    """Several hands, and which deeds each of them knows of."""

    def __init__(self, letters, hands, seed):
        self.hands = all_of(letters, hands)
        self.deeds = [frozenset() for hand in self.hands]
        self.chance = Random(seed)
        self.many = 0

    def new_deed(self, number, *deed):
        self.deeds[number] = self.deeds[number] | {deed}

    def put(self, number):
        hand = self.hands[number]
        thing = f"t{self.many}"
        self.many += 1
        mark = hand.put(self.chance.randint(0, len(hand.marks())), thing)
        self.new_deed(number, "put", thing)
        return (number, hand.age(), mark, thing)

    def take(self, number):
        hand = self.hands[number]
        if hand.marks():
            place = self.chance.randrange(len(hand.marks()))
            thing = hand.things()[place]
            hand.take(place)
            self.new_deed(number, "take", thing)

    def lay(self, number, other):
        self.hands[number].lay(self.hands[other].state())
        self.deeds[number] = self.deeds[number] | self.deeds[other]

    def renew(self):
        self.hands[0].renew()
        self.new_deed(0, "renew", self.hands[0].age())

    def step(self):
        """One deed; what was put, if something was: by whom, at which age, mark and thing."""
        number = self.chance.randrange(len(self.hands))
        deed = self.chance.choice(("put",) * 6 + ("take",) * 2 + ("lay",) * 3 + ("renew",))
        if deed == "put":
            return self.put(number)
        if deed == "take":
            self.take(number)
        if deed == "lay":
            self.lay(number, self.chance.randrange(len(self.hands)))
        if deed == "renew":
            self.renew()
        return None

    def steps(self, many):
        for step in range(many):
            self.step()

    def all_to_all(self):
        """Lay all to all: to one first, and then that one to the others."""
        last = len(self.hands) - 1
        for number in range(last):
            self.lay(last, number)
        for number in range(last):
            self.lay(number, last)


def states_at_work(letters, hands, seed, steps):
    """Each hand's state behind each of so many deeds."""
    work = Work(letters, hands, seed)
    states = []
    for step in range(steps):
        work.step()
        states.extend(hand.state() for hand in work.hands)
    return states
