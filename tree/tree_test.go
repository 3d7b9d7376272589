package tree

import (
	"math"
	"slices"
	"testing"
)

func TestNewTakesTreesOnly(t *testing.T) {
	for _, c := range []struct {
		name    string
		parents []int
		ok      bool
	}{
		{"one broker, nil", nil, true},
		{"one broker, empty", []int{}, true},
		{"two", []int{0}, true},
		{"six in a row", []int{0, 1, 2, 3, 4}, true},
		{"six, a star", []int{0, 0, 0, 0, 0}, true},
		{"seven", []int{0, 0, 0, 0, 0, 0}, false},
		{"many", make([]int, 1000), false},
		{"its own parent", []int{1}, false},
		{"its own parent, last", []int{0, 1, 2, 3, 5}, false},
		{"a later parent", []int{2, 0}, false},
		{"below nought", []int{0, -1}, false},
		{"least number", []int{math.MinInt}, false},
		{"greatest number", []int{0, math.MaxInt}, false},
	} {
		if _, ok := New(c.parents); ok != c.ok {
			t.Errorf("P3: %s: %v, want %v", c.name, ok, c.ok)
		}
	}
}

func TestHas(t *testing.T) {
	tr, _ := New([]int{0, 0})
	for broker, want := range map[int]bool{math.MinInt: false, -1: false, 0: true, 1: true, 2: true, 3: false, math.MaxInt: false} {
		if tr.Has(broker) != want {
			t.Errorf("Has(%d): %v", broker, !want)
		}
	}
	if tr.Brokers() != 3 {
		t.Errorf("Brokers: %d", tr.Brokers())
	}
}

func TestNeighboursAreABrokerAndItsParent(t *testing.T) {
	parents := []int{0, 0, 1, 3}
	tr, _ := New(parents)
	want := map[[2]int]int{{0, 1}: 1, {0, 2}: 1, {1, 3}: 1, {3, 4}: 1}
	numbers := []int{math.MinInt, -2, -1, 0, 1, 2, 3, 4, 5, 6, math.MaxInt}
	for _, a := range numbers {
		for _, b := range numbers {
			near := want[[2]int{a, b}]+want[[2]int{b, a}] > 0
			if tr.Neighbours(a, b) != near {
				t.Errorf("Neighbours(%d, %d): %v", a, b, !near)
			}
		}
	}
}

func TestParentsAreNotKept(t *testing.T) {
	parents := []int{0, 1}
	tr, _ := New(parents)
	parents[1] = 0
	if !tr.Neighbours(1, 2) || tr.Neighbours(0, 2) {
		t.Error("P2: the caller's list is kept")
	}
}

// far tells how many links there are between two brokers, by their lines of parents.
func far(parents []int, a, b int) int {
	steps := 0
	for ; a != b; steps++ {
		if a > b {
			a = parents[a-1]
		} else {
			b = parents[b-1]
		}
	}
	return steps
}

func trees(many int) [][]int {
	all := [][]int{nil}
	for i := range many - 1 {
		var more [][]int
		for _, parents := range all {
			for parent := range i + 1 {
				more = append(more, append(slices.Clone(parents), parent))
			}
		}
		all = more
	}
	return all
}

func TestNextIsOneStepNearer(t *testing.T) {
	for many := 2; many <= 6; many++ {
		for _, parents := range trees(many) {
			tr, _ := New(parents)
			for at := range many {
				for goal := range many {
					if at == goal {
						continue
					}
					next := tr.Next(at, goal)
					if !tr.Neighbours(at, next) || far(parents, next, goal) != far(parents, at, goal)-1 {
						t.Errorf("Frames: %v: Next(%d, %d): %d", parents, at, goal, next)
					}
				}
			}
		}
	}
}
