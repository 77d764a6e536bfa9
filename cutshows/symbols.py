"""Symbols: the numbers of all values that programs with the same boxes hold."""

from cutshows.basics import MOST_BOXES, is_count, is_integer
from cutshows.errors import InvalidSymbols, UnknownSymbol


class Symbols:
    """Numbers the symbols: first those with which so many boxes begin, then each result when it is first asked for."""

    def __init__(self, many):
        if not is_integer(many) or not 1 <= many <= MOST_BOXES:
            raise InvalidSymbols(many)
        self._many = many
        self._told = [(position,) for position in range(many)]
        self._found = {}

    @property
    def many(self):
        """How many boxes there are."""
        return self._many

    def number(self, label, where, reads):
        """The number of the result of a question, a new one if it has none yet."""
        for value in reads:
            if not self._is_known(value):
                raise UnknownSymbol(value)
        question = (label, where, tuple(reads))
        if question not in self._found:
            self._found[question] = len(self._told)
            self._told.append(question)
        return self._found[question]

    def symbol(self, number):
        """What tells the symbol with this number: its box, or its question."""
        if not self._is_known(number):
            raise UnknownSymbol(number)
        return self._told[number]

    def copy(self):
        """Symbols of their own, with the same numbers so far."""
        twin = Symbols(self._many)
        twin._told = list(self._told)
        twin._found = {question: self._found[question] for question in self._found}
        return twin

    def __len__(self):
        return len(self._told)

    def _is_known(self, value):
        return is_count(value) and value < len(self._told)
