"""A search for greatest keeps that needs no chain, and takes long for large clusters."""

from mostkept.tables.masks import cluster_masks, indices_in, rival_masks


class KeepSearch:
    """Finds greatest keeps among the rows of sets, which are integers as in mostkept.tables.masks."""

    def __init__(self, table, rules):
        self._table = table
        self._rivals = rival_masks(table, rules)
        self._known = {}

    def left_beside(self, rows, index):
        """Return the rows that are left for a keep that has this one."""
        return rows & ~(1 << index) & ~self._rivals[index]

    def clusters(self, rows):
        """Return the clusters of the rows."""
        return cluster_masks(self._rivals, rows)

    def best(self, rows):
        """Return a greatest keep of the rows."""
        found = 0
        for cluster in self.clusters(rows):
            found = found | self._best_of_cluster(cluster)
        return found

    def most(self, rows):
        """Return what a greatest keep of the rows keeps."""
        return self._amount_of(self.best(rows))

    def _amount_of(self, rows):
        return self._table.amount_of(indices_in(rows))

    def _best_of_cluster(self, cluster):
        if cluster & (cluster - 1) == 0:
            return cluster
        if cluster not in self._known:
            index = self._busiest(cluster)
            with_it = 1 << index | self.best(self.left_beside(cluster, index))
            without_it = self.best(cluster & ~(1 << index))
            less = self._table.scale.is_less(self._amount_of(with_it), self._amount_of(without_it))
            self._known[cluster] = without_it if less else with_it
        return self._known[cluster]

    def _busiest(self, cluster):
        """Return the row with the most rivals in the cluster, as it splits the most."""
        return max(indices_in(cluster), key=lambda index: len(indices_in(self._rivals[index] & cluster)))
