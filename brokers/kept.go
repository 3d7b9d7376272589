package brokers

import "rover/notes"

// Kept is what a broker keeps for a subscription: notes, and how many more there were that found no room.
type Kept struct {
	notes []notes.Note
	more  int
}

// tell tells the notes, ahead of them how many more there were.
func (k Kept) tell(slot int, tell func(notes.Note)) {
	if k.more > 0 {
		tell(notes.Lost(slot, k.more))
	}
	for _, note := range k.notes {
		tell(note)
	}
}
