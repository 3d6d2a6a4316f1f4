"""A search for greatest keeps that needs no chain, and takes long for large clusters."""

from mostkept.tables.clusters import ClusterSearch
from mostkept.tables.masks import indices_in


class KeepSearch(ClusterSearch):
    """Finds the greatest keep of a cluster by trying it with a row and without it."""

    def most(self, rows):
        """Return what a greatest keep of the rows keeps."""
        return self._amount_of(self.best(rows))

    def best_of_cluster(self, cluster):
        """Return a greatest keep of a cluster of several rows."""
        index = self._busiest(cluster)
        row = 1 << index
        with_it = row | self.best(self.without_rivals(cluster & ~row, index))
        without_it = self.best(cluster & ~row)
        less = self._table.scale.is_less(self._amount_of(with_it), self._amount_of(without_it))
        return without_it if less else with_it

    def _amount_of(self, rows):
        return self._table.amount_of(indices_in(rows))

    def _busiest(self, cluster):
        """Return the row with the most rivals in the cluster, as it splits the most."""
        return max(indices_in(cluster), key=lambda index: len(indices_in(self._rivals[index] & cluster)))
