"""Whether a map from keys keeps a sign, without a search and without a bound."""

from askable.base.checks import rows_of


def trie_of(rows):
    """The rows as dicts within one another: from the first values to dicts from the second ones, and so on."""
    trie = {}
    for row in rows:
        inner = trie
        for value in row:
            inner = inner.setdefault(value, {})
    return trie


class KeepJudge:
    """Looks at all key rows over the keys of a map to a target, told by its signs.

    There can be very many key rows over all keys. But the keys that make key rows with the
    same keys in front of them have any of some values at each place: they are a box, and
    the images of a box are looked up once.
    """

    def __init__(self, mapping, has_all_keys, target):
        self._mapping = mapping
        self._has_all_keys = has_all_keys
        self._target = target
        self._known_images = {}

    def keeps(self, sign, rows):
        """Whether the map keeps a sign, by the lists of the rows of the sign at each place."""
        # A sign without rows at some place has no key rows. The tries do not tell it of a sign without columns.
        return [] in rows or self._keeps_behind(sign, [trie_of(told) for told in rows], ())

    def _keeps_behind(self, sign, tries, image):
        left = self._target.width(sign) - len(image)
        if left == 0:
            return self._target.has(sign, image)
        if left == 1 and self._has_all_keys:
            return all([self._target.has(sign, image + (value,)) for value in self._images(tries)])
        for key, value in self._mapping.items():
            inner = [trie.get(part) for trie, part in zip(tries, key)]
            if None not in inner and not self._keeps_behind(sign, inner, image + (value,)):
                return False
        return True

    def _images(self, tries):
        """The list of the values to which the keys in a box are mapped."""
        box = tuple([tuple(trie) for trie in tries])
        known = self._known_images.get(box)
        if known is None:
            known = sorted({self._mapping[key] for key in rows_of(box)})
            self._known_images[box] = known
        return known
