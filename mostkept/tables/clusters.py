"""Searches for greatest keeps among many sets of rows of one table, cluster by cluster."""

from mostkept.tables.masks import cluster_masks, left_by, rival_masks


class ClusterSearch:
    """Finds greatest keeps among the rows of sets, which are integers as in mostkept.tables.masks.

    What was found for a cluster is used again, as sets that differ in few rows have most of their clusters in common.
    Classes below this one tell how the keep of a cluster is found.
    """

    def __init__(self, table, rules):
        self._table = table
        self._rivals = rival_masks(table, rules)
        self._known = {}

    def left_by(self, stay, go):
        """Return the rows of a wish: those that are not to go and conflict with none that is to stay."""
        return left_by(self._rivals, stay, go)

    def without_rivals(self, rows, index):
        """Return those of the rows that do not conflict with this one."""
        return rows & ~self._rivals[index]

    def clusters(self, rows):
        """Return the clusters of the rows."""
        return cluster_masks(self._rivals, rows)

    def best(self, rows):
        """Return a greatest keep of the rows."""
        found = 0
        for cluster in self.clusters(rows):
            if cluster not in self._known:
                # A cluster of one row is its own keep.
                self._known[cluster] = self.best_of_cluster(cluster) if cluster & (cluster - 1) > 0 else cluster
            found = found | self._known[cluster]
        return found

    def best_of_cluster(self, cluster):
        """Return a greatest keep of a cluster of several rows."""
        raise NotImplementedError("a class below this one tells it")
