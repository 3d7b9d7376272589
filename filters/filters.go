// Package filters: which events a subscription asks for.
package filters

import "rover/api"

// Filter is tests that an event must all meet. It holds a copy of them, so that it shares no memory with the list it was made of.
type Filter struct {
	tests [api.MaxTests]api.Test
	many  int
}

// New makes a filter of a list of tests; false, if the list is none.
func New(tests []api.Test) (Filter, bool) {
	if len(tests) > api.MaxTests {
		return Filter{}, false
	}
	for _, test := range tests {
		if !good(test) {
			return Filter{}, false
		}
	}
	f := Filter{many: len(tests)}
	copy(f.tests[:], tests)
	return f, true
}

// Meets tells whether an event with these fields meets each test.
func (f Filter) Meets(fields [api.Fields]int) bool {
	for _, test := range f.tests[:f.many] {
		if !meets(test, fields[test.Field]) {
			return false
		}
	}
	return true
}

func good(test api.Test) bool {
	return test.Field >= 0 && test.Field < api.Fields && test.Op >= api.Equal && test.Op <= api.Least
}

func meets(test api.Test, field int) bool {
	switch test.Op {
	case api.Equal:
		return field == test.N
	case api.Other:
		return field != test.N
	case api.Below:
		return field < test.N
	default: // Least: there is no other in a filter
		return field >= test.N
	}
}
