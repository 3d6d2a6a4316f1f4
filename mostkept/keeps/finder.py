"""A finder of greatest keeps among many sets of rows of one table."""

from mostkept.keeps.greatest import best_part
from mostkept.orders.chains import chain
from mostkept.tables.masks import cluster_masks, indices_in, left_by, mask_of, rival_masks


class KeepFinder:
    """Finds greatest keeps among the rows of sets, by rules that have a chain.

    Sets of rows are integers as in mostkept.tables.masks. What was found for a cluster is used again, as sets that
    differ in few rows have most of their clusters in common.
    """

    def __init__(self, table, rules):
        self._table = table
        self._taken = chain(rules)
        self._rivals = rival_masks(table, rules)
        self._known = {}

    def left_by(self, stay, go):
        """Return the rows of a wish: those that are not to go and conflict with none that is to stay."""
        return left_by(self._rivals, stay, go)

    def without_rivals(self, rows, index):
        """Return the rows that do not conflict with this one."""
        return rows & ~self._rivals[index]

    def clusters(self, rows):
        """Return the clusters of the rows."""
        return cluster_masks(self._rivals, rows)

    def best(self, rows):
        """Return a greatest keep of the rows."""
        found = 0
        for cluster in self.clusters(rows):
            found = found | self._best_of_cluster(cluster)
        return found

    def _best_of_cluster(self, cluster):
        if cluster & (cluster - 1) == 0:
            return cluster
        if cluster not in self._known:
            _, kept = best_part(self._table, self._taken, indices_in(cluster))
            self._known[cluster] = mask_of(kept)
        return self._known[cluster]

    def paper(self, rows):
        """Return a keep paper of the table that has just these rows."""
        indices = indices_in(rows)
        part, kept = best_part(self._table, self._taken, indices)
        return ("keep", tuple([at for at, index in enumerate(indices) if index in kept]), part)
