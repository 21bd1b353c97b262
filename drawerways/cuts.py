"""CUTS: the TREES that are left where only the first WRITES of DEEDS are on the DISK."""

from drawerways.deeds import done
from drawerways.disks import disk_of, mended, written
from drawerways.diskwrites import writes_of


def cuts(tree, deeds):
    """Tell of each CUT of DEEDS done one behind another (many, TREE)."""
    numbered = numbered_writes(tree, deeds)
    trees = trees_mended(tree, numbered)
    return tuple([(many_begun(numbered, len(deeds), n), at) for n, at in enumerate(trees)])


def numbered_writes(tree, deeds):
    """Tell the WRITES of all DEEDS in order, each as (number of the DEED, WRITE)."""
    numbered = []
    for number, deed in enumerate(deeds):
        for write in writes_of(tree, deed):
            numbered.append((number, write))
        tree, _ = done(tree, deed)
    return numbered


def trees_mended(tree, numbered):
    """Tell the TREE MENDED at each CUT."""
    disk = disk_of(tree)
    trees = [mended(disk)]
    for _, write in numbered:
        disk = written(disk, (write,))
        trees.append(mended(disk))
    return trees


def many_begun(numbered, many, n):
    """Tell how many of so many DEEDS are BEGUN at CUT n."""
    if n == len(numbered):
        return many
    number = numbered[n][0]
    if n > 0 and numbered[n - 1][0] == number:
        return number + 1
    return number
