"""Machines that read the letters of an alphabet."""

from othersknow.errors import InvalidAlphabet, InvalidCount, InvalidMove, InvalidState, InvalidStates, InvalidWord
from othersknow.values import climbs, is_count, is_index, is_list, is_number

MOST_LETTERS = 3


def is_alphabet(value):
    """Whether any value is an alphabet."""
    if not isinstance(value, str) or not 1 <= len(value) <= MOST_LETTERS:
        return False
    return climbs(value) and all(["a" <= letter <= "z" for letter in value])


def is_word(value, alphabet):
    """Whether any value is a word over an alphabet."""
    return isinstance(value, str) and all([letter in alphabet for letter in value])


def is_goals(value, letters, states):
    """Whether any value is a list of so many goals, out of so many states."""
    return is_list(value) and len(value) == letters and all([is_index(goal, states) for goal in value])


def require_shape(alphabet, size):
    """Raises an error unless a machine can have this alphabet and so many states."""
    if not is_alphabet(alphabet):
        raise InvalidAlphabet()
    if not is_number(size) or not 1 <= size <= Machine.STATES:
        raise InvalidStates(size)


def first_words(alphabet, rows):
    """The first word to each reachable state; the keys stand in the sequence of the standard form."""
    words = {0: ""}
    order = [0]
    done = 0
    while done < len(order):
        state = order[done]
        for letter, goal in zip(alphabet, rows[state]):
            if goal not in words:
                words[goal] = words[state] + letter
                order.append(goal)
        done += 1
    return words


class Machine:
    """A machine with an alphabet and 1 to 24 states; it begins in the state 0 and never changes."""

    STATES = 24

    def __init__(self, alphabet, moves):
        # What is no list has no states.
        require_shape(alphabet, len(moves) if is_list(moves) else 0)
        for index, row in enumerate(moves):
            if not is_goals(row, len(alphabet), len(moves)):
                raise InvalidMove(index)
        self.signs = alphabet
        self.rows = tuple([tuple(goals) for goals in moves])
        self.roads = first_words(self.signs, self.rows)

    @property
    def alphabet(self):
        """The letters."""
        return self.signs

    @property
    def states(self):
        """The number of states."""
        return len(self.rows)

    def moves(self):
        """The lists of the goals, one for each state."""
        return [list(goals) for goals in self.rows]

    def reachable(self):
        """The ascending list of the reachable states."""
        return sorted(self.roads)

    def behind(self, word, *, state=0):
        """The state behind a word."""
        self.require_state(state)
        self.require_word(word)
        return self.walk(word, state)

    def far(self, parts, *, state=0):
        """The state behind the words of pairs (word, count), each word so many times."""
        self.require_state(state)
        for part in parts:
            self.require_part(part)
            word, count = part
            state = self.walk_often(word, count, state)
        return state

    def word_to(self, state):
        """The first word that leads to a state, or None."""
        self.require_state(state)
        return self.roads.get(state)

    def standard(self):
        """The standard form."""
        order = list(self.roads)
        places = {state: place for place, state in enumerate(order)}
        return Machine(self.signs, [[places[goal] for goal in self.rows[state]] for state in order])

    @classmethod
    def ring(cls, alphabet, size):
        """The machine in which each letter leads to the next state."""
        require_shape(alphabet, size)
        return cls(alphabet, [[(state + 1) % size for letter in alphabet] for state in range(size)])

    @staticmethod
    def counter(alphabet, size, *, letter):
        """The machine in which one letter leads to the next state and all others stay."""
        require_shape(alphabet, size)
        if not is_word(letter, alphabet) or len(letter) != 1:
            raise InvalidWord(letter)
        steps = [1 if sign == letter else 0 for sign in alphabet]
        return Machine(alphabet, [[(state + step) % size for step in steps] for state in range(size)])

    def require_state(self, state):
        """Raises an error for what is no state."""
        if not is_index(state, len(self.rows)):
            raise InvalidState(state)

    def require_word(self, word):
        """Raises an error for what is no word."""
        if not is_word(word, self.signs):
            raise InvalidWord(word)

    def require_part(self, part):
        """Raises an error for what is no pair of a word and a count."""
        # What is no pair has no word, so it is told itself.
        if not isinstance(part, tuple) or len(part) != 2:
            raise InvalidWord(part)
        self.require_word(part[0])
        if not is_count(part[1]):
            raise InvalidCount(part[1])

    def walk(self, word, state):
        """The state behind a word, without a look at either."""
        for letter in word:
            state = self.rows[state][self.signs.find(letter)]
        return state

    def walk_often(self, word, count, state):
        """The state behind so many times a word, without a look at them."""
        path = []
        while len(path) < count and state not in path:
            path.append(state)
            state = self.walk(word, state)
        if len(path) == count:
            return state
        # The path has come back to this state: from there on it goes in circles.
        first = path.index(state)
        return path[first + (count - first) % (len(path) - first)]

    def __eq__(self, other):
        return isinstance(other, Machine) and self.signs == other.signs and self.rows == other.rows

    def __len__(self):
        return len(self.rows)

    def __repr__(self):
        return f"Machine({len(self.rows)} states, {len(self.signs)} letters)"


def alike(one, other):
    """Whether two machines have equal standard forms."""
    return one.standard() == other.standard()
