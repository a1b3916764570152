"""Keepers: a store that changes by deeds, which can be taken back, and questions that are held."""

from blockshares.errors import BadDeed, BadName, Held, NoDeed, NotHeld
from blockshares.values import is_list, is_name

# With how many things each deed is done.
WORDS = {"strike": 1, "copy": 2, "write": 2, "share": 2, "leave": 3, "rename": 2}


class Keeper:
    """A store as it is now, the deeds that led to it, and the questions that are held."""

    def __init__(self, store):
        self.store = store
        # A dict from the names, ascending, to the questions.
        self.held = {}
        # Pairs of a deed and the store on its other side: ahead of what is done, behind what is taken back.
        self.done = []
        self.undone = []

    def present(self):
        """The store as it is now."""
        return self.store

    def hold(self, name, question):
        """Holds a question under a name."""
        if not is_name(name):
            raise BadName(name)
        if name in self.held:
            raise Held(name)
        less = {each: self.held[each] for each in self.held if each < name}
        more = {each: self.held[each] for each in self.held if each > name}
        self.held = {**less, name: question, **more}

    def drop(self, name):
        """Lets the question go that is held under a name."""
        check_held(self, name)
        self.held = {each: self.held[each] for each in self.held if each != name}

    def kept(self):
        """The list of the names under which questions are held, ascending."""
        return list(self.held)

    def answer(self, name):
        """The answer to the question that is held under a name, None if the store has other folders."""
        check_held(self, name)
        return answer_of(self.store, self.held[name])

    def do(self, deed):
        """Does a deed and returns the news."""
        behind = store_behind(self.store, deed)
        self.done = self.done + [(as_tuples(deed), self.store)]
        self.undone = []
        return self.turn(behind)

    def undo(self):
        """Takes the last deed back and returns the news."""
        if len(self.done) == 0:
            raise NoDeed()
        deed, ahead = self.done[-1]
        self.done = self.done[:-1]
        self.undone = self.undone + [(deed, self.store)]
        return self.turn(ahead)

    def again(self):
        """Does the last deed again that was taken back, and returns the news."""
        if len(self.undone) == 0:
            raise NoDeed()
        deed, behind = self.undone[-1]
        self.undone = self.undone[:-1]
        self.done = self.done + [(deed, self.store)]
        return self.turn(behind)

    def deeds(self):
        """The list of the deeds that were done and not taken back."""
        return [deed for deed, ahead in self.done]

    def would(self, deeds):
        """The news that there would be if all of some deeds were done."""
        if not is_list(deeds):
            raise BadDeed(deeds)
        store = self.store
        for deed in deeds:
            store = store_behind(store, deed)
        return news_of(self.held, self.store, store)

    def turn(self, store):
        """Has another store from now on, and returns the news."""
        news = news_of(self.held, self.store, store)
        self.store = store
        return news


def check_held(keeper, name):
    """Refuses any object under which no question is held."""
    # Only names are looked up: other objects may not be fit for it.
    if not is_name(name) or name not in keeper.held:
        raise NotHeld(name)


def answer_of(store, question):
    """The answer of a store to a question, or None if it has other folders."""
    return store(question) if store.folders == question.folders else None


def news_of(held, ahead, behind):
    """The list of the pairs of a name and a new answer, of the held questions whose answer is another one."""
    answers = [(name, answer_of(ahead, held[name]), answer_of(behind, held[name])) for name in held]
    return [(name, new) for name, old, new in answers if old != new]


def is_deed(thing):
    """Whether any object is a tuple of the word of a deed and as many things as it is done with."""
    if not is_list(thing) or len(thing) == 0:
        return False
    word = thing[0]
    if not isinstance(word, str) or word not in WORDS or len(thing) != WORDS[word] + 1:
        return False
    return word != "strike" or is_list(thing[1])


def store_behind(store, deed):
    """The store when a deed is done."""
    if not is_deed(deed):
        raise BadDeed(deed)
    word = deed[0]
    if word == "strike":
        return store.strike(deed[1])
    if word == "copy":
        return store.copy(deed[1], deed[2])
    if word == "write":
        return store.write(deed[1], deed[2])
    if word == "share":
        return store.share(deed[1], deed[2])
    if word == "leave":
        return store.leave(deed[1], deed[2], deed[3])
    return store.rename(deed[1], deed[2])


def as_tuples(thing):
    """An object with a tuple in place of each list, also within."""
    return tuple([as_tuples(each) for each in thing]) if is_list(thing) else thing
