"""Tables: rows of integers under named columns, each row with a weight."""

from mostkept.base.checks import are_indices, is_index, is_whole
from mostkept.base.rows import agreement, check_columns, check_keys, check_row, groups, new_names
from mostkept.base.scales import Scale
from mostkept.errors import InvalidNumber, InvalidOperation, InvalidScale, InvalidTable, TooMany

MAX_ROWS = 200


class Table:
    """A table, which never changes."""

    MOST_ROWS = 200

    def __init__(self, columns, *rows, scale=None, weights=None):
        check_columns(columns, least=1)
        for row in rows:
            check_row(columns, row)
        used = Scale.sums() if scale is None else scale
        if not isinstance(used, Scale):
            raise InvalidScale("the scale is not a scale")
        given = (used.one,) * len(rows) if weights is None else weights
        if not isinstance(given, tuple) or len(given) != len(rows):
            raise InvalidTable("the weights are not a tuple with a weight for each row")
        if not all([used.is_weight(weight) for weight in given]):
            raise InvalidTable("a weight is not a weight of the scale")
        if len(rows) > MAX_ROWS:
            raise TooMany(MAX_ROWS)
        self._columns = columns
        self._rows = rows
        self._scale = used
        self._weights = given
        self._total = used.plus_all(given)

    @classmethod
    def of(cls, columns, rows, *, scale=None, weights=None):
        """Return a table of a tuple of rows."""
        check_columns(columns, least=1)
        if not isinstance(rows, tuple):
            raise InvalidTable("the rows are not a tuple")
        return cls(columns, *rows, scale=scale, weights=weights)

    @property
    def columns(self):
        """Return the names of the columns."""
        return self._columns

    @property
    def rows(self):
        """Return all rows."""
        return self._rows

    @property
    def weights(self):
        """Return the weights of all rows."""
        return self._weights

    @property
    def scale(self):
        """Return the scale of the weights."""
        return self._scale

    @property
    def total(self):
        """Return the sum of all weights."""
        return self._total

    def __getitem__(self, at):
        self._check_index(at)
        return self._rows[at]

    def __iter__(self):
        raise TypeError("a table is not iterated over: take its rows")

    def __len__(self):
        return len(self._rows)

    def __contains__(self, x):
        return x in self._rows

    def __eq__(self, other):
        return (isinstance(other, Table) and self._columns == other._columns and self._rows == other._rows
                and self._weights == other._weights and self._scale == other._scale)

    def __str__(self):
        return f"table of {len(self._columns)} columns, {len(self._rows)} rows"

    def __or__(self, other):
        if not isinstance(other, Table) or self._columns != other._columns or self._scale != other._scale:
            raise InvalidOperation("the other value is not a table with the same columns and scale")
        return self._changed(self._rows + other._rows, self._weights + other._weights)

    def weight(self, index):
        """Return the weight of a row."""
        self._check_index(index)
        return self._weights[index]

    def agreement(self, index, other):
        """Return the columns on which two rows agree."""
        self._check_index(index)
        self._check_index(other)
        return agreement(self._columns, self._rows[index], self._rows[other])

    def with_row(self, row, *, weight=None):
        """Return the table with one more row behind the others."""
        given = self._scale.one if weight is None else weight
        return self._changed(self._rows + (row,), self._weights + (given,))

    def without(self, *indices):
        """Return the table without these rows."""
        return self.without_all(indices)

    def without_all(self, indices):
        """Return the table without a tuple of rows."""
        self._check_indices(indices)
        return self._picked([at for at in range(len(self._rows)) if at not in indices])

    def only(self, *indices):
        """Return the table of just these rows, in their order in this table."""
        return self.only_all(indices)

    def only_all(self, indices):
        """Return the table of just a tuple of rows, in their order in this table."""
        self._check_indices(indices)
        return self._picked([at for at in range(len(self._rows)) if at in indices])

    def weighted(self, index, weight):
        """Return the table in which a row has another weight."""
        self._check_index(index)
        return self._changed(self._rows, self._weights[:index] + (weight,) + self._weights[index + 1:])

    def reordered(self, indices):
        """Return the table with its rows in this order."""
        if not are_indices(indices, len(self._rows)) or sorted(indices) != list(range(len(self._rows))):
            raise InvalidOperation("the indices are not a tuple with each index once")
        return self._picked(indices)

    def renamed(self, **columns):
        """Return the table with new names for the columns that are passed as keywords."""
        return self.renamed_by(columns)

    def renamed_by(self, columns):
        """Return the table with new names for the columns that are keys of the dict."""
        names = new_names(self._columns, columns)
        places = [names.index(name) for name in sorted(names)]
        rows = tuple([tuple([row[at] for at in places]) for row in self._rows])
        return Table.of(tuple(sorted(names)), rows, scale=self._scale, weights=self._weights)

    def amount_of(self, indices):
        """Return the sum of the weights of these rows, each counted once."""
        self._check_indices(indices)
        return self._scale.plus_all(tuple([self._weights[at] for at in sorted(set(indices))]))

    def grouped(self, columns):
        """Return the indices of the rows for each tuple of values in these columns."""
        return groups(self._columns, self._rows, columns)

    def where(self, **values):
        """Yield the indices of the rows with these values in the columns that are passed as keywords."""
        yield from self.where_by(values)

    def where_by(self, values):
        """Yield the indices of the rows with these values in the columns that are keys of the dict."""
        check_keys(self._columns, values)
        if not all([is_whole(values[name]) for name in values]):
            raise InvalidTable("a value is not an integer")
        wanted = [(self._columns.index(name), values[name]) for name in values]
        for index, row in enumerate(self._rows):
            if all([row[at] == value for at, value in wanted]):
                yield index

    def _changed(self, rows, weights):
        # The new table checks what is new in it, so the methods that come here need not.
        return Table.of(self._columns, rows, scale=self._scale, weights=weights)

    def _picked(self, indices):
        rows = tuple([self._rows[at] for at in indices])
        return self._changed(rows, tuple([self._weights[at] for at in indices]))

    def _check_index(self, index):
        if not is_index(index, len(self._rows)):
            raise InvalidNumber(index)

    def _check_indices(self, indices):
        if not isinstance(indices, tuple):
            raise InvalidOperation("the indices are not a tuple")
        for index in indices:
            self._check_index(index)
