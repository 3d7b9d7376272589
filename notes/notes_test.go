package notes

import (
	"testing"

	"rover/api"
)

func TestEvent(t *testing.T) {
	event := api.Event{Publisher: 3, Number: 4, Fields: [3]int{5, 6, 7}}
	note := Event(1, event, 2)
	if note.Entry != (api.Entry{Slot: 1, Event: event}) || note.Stay != 2 {
		t.Errorf("P8: %+v", note)
	}
}

func TestLost(t *testing.T) {
	note := Lost(1, 8)
	if note.Entry != (api.Entry{Slot: 1, Lost: 8}) || note.Stay != 0 {
		t.Errorf("P8: %+v", note)
	}
}
