// Package tree: the brokers, who is whose neighbour, and the path from one to another.
package tree

import (
	"slices"

	"rover/api"
)

// Tree is brokers: broker 0 is the root, parents[i] is the parent of broker i + 1.
type Tree struct {
	parents []int
}

// New makes a tree of a copy of parents; false, if they are no tree.
func New(parents []int) (Tree, bool) {
	if len(parents) >= api.MaxBrokers {
		return Tree{}, false
	}
	for i, parent := range parents {
		if parent < 0 || parent > i {
			return Tree{}, false
		}
	}
	return Tree{parents: slices.Clone(parents)}, true
}

// Brokers tells how many there are.
func (t Tree) Brokers() int {
	return len(t.parents) + 1
}

// Has tells whether there is such a broker.
func (t Tree) Has(broker int) bool {
	return broker >= 0 && broker < t.Brokers()
}

// Neighbours tells whether one of the two is the other's parent; any numbers may be asked.
func (t Tree) Neighbours(a, b int) bool {
	return t.isParent(a, b) || t.isParent(b, a)
}

// Next tells the neighbour of a broker on the path to another one of the tree.
func (t Tree) Next(at, goal int) int {
	// A parent is less than its child, so what is not above at is not below it.
	for b := goal; b > at; b = t.parent(b) {
		if t.parent(b) == at {
			return b
		}
	}
	return t.parent(at)
}

func (t Tree) isParent(parent, child int) bool {
	return child > 0 && t.Has(child) && t.parent(child) == parent
}

// parent tells the parent of a broker that is not the root.
func (t Tree) parent(child int) int {
	return t.parents[child-1]
}
