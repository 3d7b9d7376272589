package filters

import (
	"math"
	"slices"
	"testing"

	"rover/api"
)

func TestNewTakesFiltersOnly(t *testing.T) {
	good := api.Test{Field: 2, Op: api.Least, N: math.MinInt}
	for k, c := range []struct {
		tests []api.Test
		ok    bool
	}{
		{nil, true},
		{[]api.Test{}, true},
		{[]api.Test{good}, true},
		{[]api.Test{good, good, good}, true},
		{[]api.Test{good, good, good, good}, false},
		{make([]api.Test, 10000), false},
		{[]api.Test{{Field: 0, Op: 1}}, true},
		{[]api.Test{{Field: 1, Op: 2}}, true},
		{[]api.Test{{Field: 2, Op: 3}}, true},
		{[]api.Test{{Field: 2, Op: 4}}, true},
		{[]api.Test{{Field: -1, Op: 1}}, false},
		{[]api.Test{{Field: 3, Op: 1}}, false},
		{[]api.Test{{Field: math.MinInt, Op: 1}}, false},
		{[]api.Test{{Field: math.MaxInt, Op: 1}}, false},
		{[]api.Test{{}}, false},
		{[]api.Test{{Op: -1}}, false},
		{[]api.Test{{Op: 5}}, false},
		{[]api.Test{{Op: math.MinInt}}, false},
		{[]api.Test{{Op: math.MaxInt}}, false},
		{[]api.Test{good, good, {Op: 5}}, false},
		{[]api.Test{{Field: 3, Op: 1}, good}, false},
	} {
		f, ok := New(c.tests)
		if ok != c.ok {
			t.Errorf("P5: line %d: %v, want %v", k, ok, c.ok)
		}
		if !ok && f != (Filter{}) {
			t.Errorf("P1: line %d: %+v beside an error", k, f)
		}
	}
}

func TestEachOp(t *testing.T) {
	numbers := []int{math.MinInt, -1, 0, 1, 4, 5, 6, math.MaxInt}
	for _, n := range numbers {
		for _, field := range numbers {
			for op, want := range map[int]bool{
				api.Equal: field == n,
				api.Other: field != n,
				api.Below: field < n,
				api.Least: field >= n,
			} {
				f, ok := New([]api.Test{{Field: 1, Op: op, N: n}})
				// The fields beside it would answer otherwise, as one of them meets, and one does not.
				if got := f.Meets([3]int{n, field, n - 1}); !ok || got != want {
					t.Errorf("Words: %d, Op %d, %d: %v", field, op, n, got)
				}
			}
		}
	}
}

func TestEachField(t *testing.T) {
	for field := range api.Fields {
		f, _ := New([]api.Test{{Field: field, Op: api.Equal, N: 9}})
		for at := range api.Fields {
			var fields [3]int
			fields[at] = 9
			if f.Meets(fields) != (at == field) {
				t.Errorf("Words: field %d is asked, %d holds it", field, at)
			}
		}
	}
}

func TestEachTestMustBeMet(t *testing.T) {
	f, _ := New([]api.Test{{Field: 0, Op: api.Least, N: 2}, {Field: 0, Op: api.Below, N: 5}, {Field: 2, Op: api.Other, N: 0}})
	for fields, want := range map[[3]int]bool{
		{2, 0, 1}: true,
		{4, 0, 7}: true,
		{1, 0, 1}: false,
		{5, 0, 1}: false,
		{3, 0, 0}: false,
		{3, 1, 0}: false,
		{9, 9, 0}: false,
	} {
		if f.Meets(fields) != want {
			t.Errorf("Words: %v: %v", fields, !want)
		}
	}
}

func TestNoTestIsMetByAll(t *testing.T) {
	f, _ := New(nil)
	for _, fields := range [][3]int{{}, {1, 2, 3}, {math.MinInt, math.MaxInt, -1}} {
		if !f.Meets(fields) {
			t.Errorf("Words: %v does not meet a filter without tests", fields)
		}
	}
}

func TestTestsAreTheCallers(t *testing.T) {
	room := []api.Test{{Op: api.Equal, N: 1}, {Op: api.Below, N: 2}, {Op: api.Least, N: 77}}
	was := slices.Clone(room)
	f, _ := New(room[:2])
	if !slices.Equal(room, was) {
		t.Errorf("P2: New writes into its list: %v", room)
	}
	clear(room)
	if !f.Meets([3]int{1}) || f.Meets([3]int{0}) {
		t.Errorf("P2: New keeps its list")
	}
}
