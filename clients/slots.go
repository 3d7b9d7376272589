package clients

import (
	"rover/filters"
	"rover/notes"
)

// slot has room for a subscription. Its age stays when the subscription ends, as the next one's follows it.
type slot struct {
	taken  bool
	age    int
	filter filters.Filter
	heard  map[stay]int
}

// stay is one of a publisher's stays at a broker.
type stay struct {
	publisher, nth int
}

// newSlot makes a slot in which there never was a subscription: the age of the first one is 0.
func newSlot() slot {
	return slot{age: -1}
}

// take makes a new subscription, to which nothing was told.
func (s *slot) take(filter filters.Filter) {
	*s = slot{taken: true, age: s.age + 1, filter: filter, heard: map[stay]int{}}
}

// free ends the subscription.
func (s *slot) free() {
	*s = slot{age: s.age}
}

// hear tells whether a note is to be told for the subscription, and remembers the greatest number that was told of each stay. Stays stand side by side, as events of an earlier one may come later.
func (s *slot) hear(note notes.Note) bool {
	if !s.taken {
		return false
	}
	if note.Lost > 0 {
		return true
	}
	from := stay{publisher: note.Event.Publisher, nth: note.Stay}
	if note.Event.Number <= s.heard[from] {
		return false
	}
	s.heard[from] = note.Event.Number
	return true
}
