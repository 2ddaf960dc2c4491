"""The coarsest classes of things that stay alike when they are looked at by classes."""


class Refining:
    """Things numbered from 0, in classes that are split until all of a class look alike.

    forms has what a thing is by itself, links the things it leads to, in order, and sets those
    it leads to in no order; links and sets of things of one form are compared by classes.
    """

    def __init__(self, forms, links, sets):
        self.links = links
        self.sets = sets
        numbers = {}
        self.classes = [numbers.setdefault(form, len(numbers)) for form in forms]
        self.members = [{} for _ in numbers]
        for thing, each in enumerate(self.classes):
            self.members[each][thing] = True
        self.users = [[] for _ in forms]
        for thing in range(len(forms)):
            for other in tuple(links[thing]) + tuple(sets[thing]):
                self.users[other].append(thing)

    def refined(self):
        """Return the class of each thing in the coarsest classes."""
        waiting = list(range(len(self.classes)))
        while waiting:
            looks = {}
            for thing in waiting:
                groups = looks.setdefault(self.classes[thing], {})
                groups.setdefault(self._look(thing), []).append(thing)
            changed = []
            for number, groups in looks.items():
                changed.extend(self._split(number, list(groups.values())))
            users = {}
            for thing in changed:
                for user in self.users[thing]:
                    users[user] = True
            waiting = list(users)
        return self.classes

    def _look(self, thing):
        seen = tuple([self.classes[each] for each in self.links[thing]])
        return (seen, tuple(sorted(set([self.classes[each] for each in self.sets[thing]]))))

    def _split(self, number, groups):
        """Split a class by groups of some of its things; return those with a new class.

        The other things of the class look alike, and unlike these: only these lead to things
        that got a new class. The largest group keeps its class, so that little is looked at again.
        """
        rest = self.members[number]
        for group in groups:
            for thing in group:
                del rest[thing]
        if rest:
            groups.append(list(rest))
        groups = sorted(groups, key=len)
        self.members[number] = {thing: True for thing in groups[-1]}
        changed = []
        for group in groups[:-1]:
            self.members.append({thing: True for thing in group})
            for thing in group:
                self.classes[thing] = len(self.members) - 1
            changed.extend(group)
        return changed
