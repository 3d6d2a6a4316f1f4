"""A finder of greatest keeps among many sets of rows of one table, by rules that have a chain."""

from mostkept.keeps.greatest import best_part
from mostkept.orders.chains import chain
from mostkept.tables.clusters import ClusterSearch
from mostkept.tables.masks import indices_in, mask_of


class KeepFinder(ClusterSearch):
    """Finds the greatest keep of a cluster along a chain of the rules."""

    def __init__(self, table, rules):
        ClusterSearch.__init__(self, table, rules)
        self._taken = chain(rules)

    def best_of_cluster(self, cluster):
        """Return a greatest keep of a cluster of several rows."""
        _, kept = best_part(self._table, self._taken, indices_in(cluster))
        return mask_of(kept)

    def paper(self, rows):
        """Return a keep paper of the table that has just these rows."""
        indices = indices_in(rows)
        part, kept = best_part(self._table, self._taken, indices)
        return ("keep", tuple([at for at, index in enumerate(indices) if index in kept]), part)
