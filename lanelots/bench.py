"""A bench: things and notes under names, changes that can be taken back and done again, and commands."""

from lanelots.basics import copied, is_list
from lanelots.claims import is_claim, is_paper, kinds_of_parts, things_at, true_word_and_paper
from lanelots.commands import is_change, is_name, things_told, words_of
from lanelots.deeds import answered, check_kinds, kind_of, made
from lanelots.errors import CommandFailed, InvalidClaim, InvalidName, InvalidParts, InvalidThing, LaneError, LimitError
from lanelots.errors import Lost, MissingError, NothingToRedo, NothingToUndo, StateError, TakenName, UnknownName


class State:
    """What stands on a bench at a moment; it never changes.

    done: for each change that can be taken back its line, and the things and notes ahead of it.
    undone: for each change that can be done again its line, and the things and notes behind it, the next one last.
    """

    def __init__(self, things, noted, done, undone):
        self.things = things
        self.noted = noted
        self.done = done
        self.undone = undone


class Bench:
    """Things and notes under names."""

    def __init__(self):
        self._state = State({}, {}, [], [])

    def __iter__(self):
        raise TypeError("a bench is not iterated over: ask for its names() and its notes()")

    def __getitem__(self, at):
        if not isinstance(at, str) or at not in self._state.things:
            raise UnknownName(at)
        return self._state.things[at]

    def __setitem__(self, at, worth):
        _check_name(at)
        self._check_no_note(at)
        if kind_of(worth) is None:
            raise InvalidThing(worth)
        self._put_thing(f"put {at}", at, worth)

    def __contains__(self, x):
        return isinstance(x, str) and (x in self._state.things or x in self._state.noted)

    def __len__(self):
        return len(self._state.done)

    def names(self):
        """The sorted list of the names of things."""
        return sorted(list(self._state.things))

    def notes(self):
        """The sorted list of the names of notes."""
        return sorted(list(self._state.noted))

    def note(self, name, word, parts):
        """Notes the claim or its contrary one, whichever is true, and tells its word."""
        _check_name(name)
        if name in self._state.things:
            raise TakenName(name)
        self._check_parts(word, parts)
        claim = self._claim_now(word, parts)
        told = true_word_and_paper(claim)
        if told is None:
            raise InvalidClaim(claim)
        return self._put_note(f"note {name}", name, parts, told)

    def claim(self, name):
        """The claim of the note, things told by their names."""
        self._check_note(name)
        word, parts, _ = self._state.noted[name]
        return (word, *copied(parts))

    def paper(self, name):
        """The paper of the note."""
        self._check_note(name)
        _, _, paper = self._state.noted[name]
        return copied(paper)

    def look(self, name):
        """Whether the note holds, is stale, or is lost, by the things as they are now."""
        self._check_note(name)
        word, parts, paper = self._state.noted[name]
        claim = self._claim_now(word, parts)
        if not is_claim(claim):
            return "lost"
        return "holds" if is_paper(claim, paper) else "stale"

    def renew(self, name):
        """Notes the claim anew, or its contrary one, whichever is true, and tells its word."""
        self._check_note(name)
        word, parts, _ = self._state.noted[name]
        told = true_word_and_paper(self._claim_now(word, parts))
        if told is None:
            raise Lost(name)
        return self._put_note(f"renew {name}", name, parts, told)

    def drop(self, name):
        """Takes a thing or a note away."""
        if name not in self:
            raise UnknownName(name)
        state = self._state
        things = {other: state.things[other] for other in state.things if other != name}
        noted = {other: state.noted[other] for other in state.noted if other != name}
        self._change(f"drop {name}", things, noted)

    def undo(self):
        """Takes the last change back, and tells its line."""
        state = self._state
        if state.done == []:
            raise NothingToUndo()
        line, things, noted = state.done[-1]
        self._state = State(things, noted, state.done[:-1], state.undone + [(line, state.things, state.noted)])
        return line

    def redo(self):
        """Does again what was taken back last, and tells its line."""
        state = self._state
        if state.undone == []:
            raise NothingToRedo()
        line, things, noted = state.undone[-1]
        self._state = State(things, noted, state.done + [(line, state.things, state.noted)], state.undone[:-1])
        return line

    def log(self):
        """The lines of the changes that were made and not taken back."""
        return [line for line, _, _ in self._state.done]

    def do(self, command):
        """Does the command, and tells its answer."""
        words = words_of(command)
        if words[0] == "undo":
            return self.undo()
        if words[0] == "redo":
            return self.redo()
        if words[0] == "renew":
            return self.renew(words[1])
        if words[0] == "look":
            return self.look(words[1])
        if words[0] == "told":
            return self.claim(words[1])[0]
        if words[0] == "drop":
            self.drop(words[1])
            return "done"
        return self._do_with_things(command, words)

    def do_all(self, *commands):
        """Does all of the commands, and tells their answers; if one fails, none has an effect."""
        state = self._state
        found = []
        for position, command in enumerate(commands):
            try:
                found.append(self.do(command))
            except (LaneError, MissingError, StateError, LimitError) as error:
                self._state = state
                raise CommandFailed(position) from error
        return found

    def _do_with_things(self, command, words):
        """Does a command that makes a thing of others, or asks them."""
        names = things_told(words)
        things = [self[name] for name in names]
        check_kinds(words, names, things)
        if not is_change(command):
            return answered(words, things)
        self._check_no_note(words[1])
        self._put_thing(command, words[1], made(words, things))
        return "done"

    def _claim_now(self, word, parts):
        """The claim, with the things as they are now in the place of their names; of a name that has none, None."""
        named = things_at(word)
        told = [self._state.things.get(part) if place in named else part for place, part in enumerate(parts)]
        return (word, *told)

    def _put_thing(self, line, name, thing):
        things, noted = self._state.things, self._state.noted
        self._change(line, {**things, name: thing}, noted)

    def _put_note(self, line, name, parts, told):
        """Puts the note of the word and the paper that are told, and tells the word."""
        word, paper = told
        things, noted = self._state.things, self._state.noted
        self._change(line, things, {**noted, name: (word, copied(tuple(parts)), copied(paper))})
        return word

    def _change(self, line, things, noted):
        state = self._state
        self._state = State(things, noted, state.done + [(line, state.things, state.noted)], [])

    def _check_no_note(self, name):
        if name in self._state.noted:
            raise TakenName(name)

    def _check_note(self, name):
        if not isinstance(name, str) or name not in self._state.noted:
            raise UnknownName(name)

    def _check_parts(self, word, parts):
        """InvalidClaim unless a word of claims; InvalidParts unless as many parts, with names where things stand."""
        named = things_at(word)
        if not is_list(parts) or len(parts) != len(kinds_of_parts(word)):
            raise InvalidParts(None)
        for place in named:
            if not isinstance(parts[place], str) or parts[place] not in self._state.things:
                raise InvalidParts(place)


def tried(bench, action):
    """What the action returns for the bench, which is then as it was ahead of it."""
    state = bench._state
    try:
        return action(bench)
    finally:
        bench._state = state


def _check_name(name):
    if not is_name(name):
        raise InvalidName(name)
