// Package notes: what is told to a client, or kept for it.
package notes

import "rover/api"

// Note is an entry for a client's log. Stay is the stay of the event's publisher in which it was published: the log does not show it, but whether the event is told hangs on it.
type Note struct {
	api.Entry
	Stay int
}

// Event makes a note of an event for the subscription in a slot.
func Event(slot int, event api.Event, stay int) Note {
	return Note{Entry: api.Entry{Slot: slot, Event: event}, Stay: stay}
}

// Lost makes a note of how many events were lost.
func Lost(slot, many int) Note {
	return Note{Entry: api.Entry{Slot: slot, Lost: many}}
}
