"""Two parcels that are merged, and nodes that hold parcels and send them to each other."""

from samphire.errors import NoParcel, SharedPart, UnknownLetter, WrongReceiver
from samphire.merging import parts_of, put_together, with_new
from samphire.strategies import check_parcels


def merged(first, second, dice):
    """Return the parcel merged of two. Raises as check_parcels does for them."""
    check_parcels([first, second])
    return put_together(first, second, dice)


class Node:
    """A node: it holds parcels, and has letters out."""

    def __init__(self, name, parcels):
        self.name = name
        self._parcels = list(parcels)
        self._sent = 0
        self._letters = {}
        self._taken = {}

    def held(self):
        """Return the list of the parcels that the node holds."""
        return list(self._parcels)

    def out(self):
        """Return the ascending list of the numbers of the letters that are out."""
        return sorted(self._letters)

    def merge(self, i, j, dice):
        """Merge two of the parcels that the node holds, i being the first one. Raises NoParcel."""
        self._check_number(i)
        self._check_number(j)
        if i == j:
            raise NoParcel(j)
        new = merged(self._parcels[i], self._parcels[j], dice)
        self._parcels = with_new(self._parcels, i, j, new)

    def send(self, i, receiver):
        """Put a parcel out, and return the letter. Raises NoParcel and WrongReceiver."""
        self._check_number(i)
        if receiver == self.name:
            raise WrongReceiver(receiver)
        self._sent += 1
        letter = (self.name, self._sent, receiver, self._parcels.pop(i))
        self._letters[self._sent] = letter
        return letter

    def again(self, number):
        """Return the letter with a number. Raises UnknownLetter if it is not out."""
        if number not in self._letters:
            raise UnknownLetter(number)
        return self._letters[number]

    def take(self, letter):
        """Return True if the node takes a letter, False if it has taken it before. Raises WrongReceiver, SharedPart."""
        sender, number, receiver, parcel = letter
        if receiver != self.name:
            raise WrongReceiver(receiver)
        if self.has_taken(sender, number):
            return False
        here = self._parts()
        shared = [part for part in parcel[0] if part in here]
        if shared:
            raise SharedPart(min(shared))
        self._taken[(sender, number)] = True
        self._parcels.append(parcel)
        return True

    def confirm(self, number):
        """Let the letter with a number be out no longer, if it is."""
        if number in self._letters:
            del self._letters[number]

    def has_taken(self, sender, number):
        """Return True if the node has taken the letter."""
        return (sender, number) in self._taken

    def _check_number(self, number):
        """Raise NoParcel if the node holds no parcel with this number."""
        if not 0 <= number < len(self._parcels):
            raise NoParcel(number)

    def _parts(self):
        """Return the list of the parts that the node holds or has out."""
        parcels = self._parcels + [self._letters[number][3] for number in self.out()]
        return parts_of(parcels)


def is_pending(letter, nodes):
    """Return True if the receiver of a letter that is out has not taken it."""
    sender, number, receiver, parcel = letter
    for node in nodes:
        if node.name == receiver and node.has_taken(sender, number):
            return False
    return True


def counted(nodes):
    """Return the ascending list of the triples (part, "held" or "out", name) of the places where parts count."""
    found = []
    for node in nodes:
        found.extend([(part, "held", node.name) for part in parts_of(node.held())])
        letters = [node.again(number) for number in node.out()]
        pending = [letter[3] for letter in letters if is_pending(letter, nodes)]
        found.extend([(part, "out", node.name) for part in parts_of(pending)])
    return sorted(found)
