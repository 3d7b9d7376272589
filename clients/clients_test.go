package clients

import (
	"slices"
	"testing"

	"rover/api"
)

func TestComeAndLeave(t *testing.T) {
	c := New()
	if !c.Away() || c.At() != Nowhere || c.View() != (api.View{At: -1, Home: -1}) {
		t.Errorf("P3: at first: %+v", c.View())
	}
	c.Come(0)
	if c.Away() || c.At() != 0 || c.View() != (api.View{At: 0, Home: 0}) {
		t.Errorf("P4: at 0: %+v", c.View())
	}
	c.Leave()
	if !c.Away() || c.At() != Nowhere || c.View() != (api.View{At: -1, Home: 0}) {
		t.Errorf("P4: away: %+v", c.View())
	}
	c.Come(5)
	if c.Away() || c.At() != 5 || c.View() != (api.View{At: 5, Home: 5}) {
		t.Errorf("P4: at 5: %+v", c.View())
	}
}

func TestNumbersRiseFromOne(t *testing.T) {
	c := New()
	for want := 1; want < 5; want++ {
		c.Come(want)
		if got := c.Number(); got != want {
			t.Errorf("P6: %d, want %d", got, want)
		}
		c.Leave()
	}
}

func TestLogIsToldOnceAndInOrder(t *testing.T) {
	c := New()
	first := []api.Entry{{Slot: 1, Lost: 3}, {Slot: 0, Event: api.Event{Publisher: 2, Number: 7}}, {Slot: 1}}
	for _, entry := range first {
		c.Tell(entry)
	}
	log := c.TakeLog()
	if !slices.Equal(log, first) {
		t.Errorf("P8: %v, want %v", log, first)
	}
	if again := c.TakeLog(); len(again) != 0 {
		t.Errorf("P8: told again: %v", again)
	}
}

func TestLogIsNewMemory(t *testing.T) {
	c := New()
	for slot := range 3 {
		c.Tell(api.Entry{Slot: slot})
	}
	old := c.TakeLog()
	// Fewer than before: they would fit into the memory of the first answer.
	c.Tell(api.Entry{Lost: 2})
	if old[0] != (api.Entry{}) {
		t.Errorf("P2: an answer is written into: %v", old)
	}
	clear(old[:cap(old)])
	if log := c.TakeLog(); !slices.Equal(log, []api.Entry{{Lost: 2}}) {
		t.Errorf("P2: an answer is kept: %v", log)
	}
}
