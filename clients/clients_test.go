package clients

import (
	"slices"
	"testing"

	"rover/api"
	"rover/filters"
	"rover/notes"
)

func TestComeAndLeave(t *testing.T) {
	c := New()
	if !c.Away() || c.At() != Nowhere || c.Home() != Nowhere || c.View() != (api.View{At: -1, Home: -1}) {
		t.Errorf("P3: at first: %+v", c.View())
	}
	c.Come(0)
	if c.Away() || c.At() != 0 || c.View() != (api.View{At: 0, Home: 0}) {
		t.Errorf("P4: at 0: %+v", c.View())
	}
	c.Leave()
	if !c.Away() || c.At() != Nowhere || c.Home() != 0 || c.View() != (api.View{At: -1, Home: 0}) {
		t.Errorf("P4: away: %+v", c.View())
	}
	c.Come(5)
	if c.Away() || c.At() != 5 || c.Home() != 5 || c.View() != (api.View{At: 5, Home: 5}) {
		t.Errorf("P4: at 5: %+v", c.View())
	}
}

func TestNumbersRiseFromOne(t *testing.T) {
	c := New()
	for want := 1; want < 5; want++ {
		c.Come(want)
		if got := c.Number(); got != want {
			t.Errorf("P6: %d, want %d", got, want)
		}
		c.Leave()
	}
}

func TestAStayBeginsWithEachAttach(t *testing.T) {
	c := New()
	last := c.Stay()
	for _, broker := range []int{2, 2, 1, 2} {
		c.Come(broker)
		if c.Stay() == last {
			t.Errorf("Frames: the stay %d goes on at %d", last, broker)
		}
		last = c.Stay()
		c.Number()
		c.Leave()
		if c.Stay() != last {
			t.Errorf("Frames: a stay ends with Detach")
		}
	}
}

func TestSlotsAreTakenFromTheLeastOn(t *testing.T) {
	c := New()
	c.Come(3)
	for slot := range api.Slots {
		if free, ok := c.Free(); free != slot || !ok || c.Has(slot) {
			t.Errorf("P5: %d, %v, want %d", free, ok, slot)
		}
		c.Subscribe(slot, filters.Filter{})
		if !c.Has(slot) {
			t.Errorf("P5: nothing in slot %d", slot)
		}
	}
	if free, ok := c.Free(); free != 0 || ok {
		t.Errorf("P5: both taken: %d, %v", free, ok)
	}
	if v := c.View(); v != (api.View{At: 3, Home: 3, Slots: [2]bool{true, true}}) {
		t.Errorf("P8: %+v", v)
	}
	c.Unsubscribe(0)
	if free, ok := c.Free(); free != 0 || !ok {
		t.Errorf("P5: %d, %v, want 0", free, ok)
	}
	if v := c.View(); v != (api.View{At: 3, Home: 3, Slots: [2]bool{false, true}}) {
		t.Errorf("P8: %+v", v)
	}
}

func TestAgesOfASlotRise(t *testing.T) {
	c := New()
	for want := range 4 {
		if age := c.Subscribe(0, filters.Filter{}); age != want {
			t.Errorf("P5: Subscribe: age %d, want %d", age, want)
		}
		if age := c.Unsubscribe(0); age != want {
			t.Errorf("P5: Unsubscribe: age %d, want %d", age, want)
		}
	}
	if age := c.Subscribe(1, filters.Filter{}); age != 0 {
		t.Errorf("P5: the first one of slot 1: age %d", age)
	}
}

func TestMovesMakeASubscriptionOlder(t *testing.T) {
	c := New()
	filter, ok := filters.New([]api.Test{{Field: 1, Op: api.Below, N: 9}})
	if !ok {
		t.Fatal("P5: a filter is refused")
	}
	c.Subscribe(0, filters.Filter{})
	c.Subscribe(1, filter)
	for want := 1; want < 4; want++ {
		if age, f := c.Move(1); age != want || f != filter {
			t.Errorf("P4: age %d, %+v, want %d", age, f, want)
		}
	}
	if age, f := c.Move(0); age != 1 || f != (filters.Filter{}) {
		t.Errorf("P4: the other slot: age %d, %+v", age, f)
	}
	if age := c.Unsubscribe(1); age != 3 {
		t.Errorf("P5: Unsubscribe: age %d, want 3", age)
	}
	if age := c.Subscribe(1, filters.Filter{}); age != 4 {
		t.Errorf("P5: Subscribe: age %d, want 4", age)
	}
	if _, f := c.Move(1); f != (filters.Filter{}) {
		t.Errorf("P5: an old filter: %+v", f)
	}
}

func TestAMoveForgetsNothingThatWasTold(t *testing.T) {
	c := subscribed()
	c.Tell(notes.Event(0, event(3, 5), 1))
	c.TakeLog()
	c.Move(0)
	c.Tell(notes.Event(0, event(3, 5), 1))
	c.Tell(notes.Event(0, event(3, 4), 1))
	if log := c.TakeLog(); log != nil {
		t.Errorf("Frames: told before the move: %v", log)
	}
	c.Tell(notes.Event(0, event(3, 6), 1))
	if log := c.TakeLog(); len(log) != 1 {
		t.Errorf("Frames: not told before the move: %v", log)
	}
}

// subscribed makes a client with subscriptions in both slots.
func subscribed() Client {
	c := New()
	c.Subscribe(0, filters.Filter{})
	c.Subscribe(1, filters.Filter{})
	return c
}

func event(publisher, number int) api.Event {
	return api.Event{Publisher: publisher, Number: number}
}

func TestLogIsToldOnceAndInOrder(t *testing.T) {
	c := subscribed()
	told := []notes.Note{notes.Lost(1, 3), notes.Event(0, event(2, 7), 1), notes.Event(1, event(2, 7), 1), notes.Lost(0, 1)}
	var want []api.Entry
	for _, note := range told {
		c.Tell(note)
		want = append(want, note.Entry)
	}
	if log := c.TakeLog(); !slices.Equal(log, want) {
		t.Errorf("P8: %v, want %v", log, want)
	}
	if again := c.TakeLog(); len(again) != 0 {
		t.Errorf("P8: told again: %v", again)
	}
}

func TestOfOneStayOnlyRisingNumbersAreTold(t *testing.T) {
	c := subscribed()
	for k, x := range []struct {
		publisher, number, stay int
		told                    bool
	}{
		{2, 3, 1, true},
		{2, 3, 1, false},
		{2, 2, 1, false},
		{2, 5, 1, true},
		{2, 4, 1, false},
		{2, 5, 1, false},
		{1, 1, 1, true},
		{1, 1, 1, false},
		{2, 7, 2, true},
		{2, 6, 1, true},
		{2, 7, 2, false},
		{2, 8, 2, true},
		{2, 6, 1, false},
	} {
		c.Tell(notes.Event(0, event(x.publisher, x.number), x.stay))
		if log := c.TakeLog(); (len(log) == 1) != x.told {
			t.Errorf("Frames: line %d: %v", k, log)
		}
	}
}

func TestWhatWasToldHoldsForOneSubscriptionAlone(t *testing.T) {
	c := subscribed()
	c.Tell(notes.Event(0, event(3, 9), 1))
	c.Tell(notes.Event(1, event(3, 8), 1))
	if log := c.TakeLog(); len(log) != 2 {
		t.Errorf("Frames: another slot: %v", log)
	}
	c.Unsubscribe(0)
	c.Subscribe(0, filters.Filter{})
	c.Tell(notes.Event(0, event(3, 8), 1))
	c.Tell(notes.Event(1, event(3, 8), 1))
	if log := c.TakeLog(); !slices.Equal(log, []api.Entry{{Slot: 0, Event: event(3, 8)}}) {
		t.Errorf("Frames: since it was made: %v", log)
	}
}

func TestNothingIsToldWithoutASubscription(t *testing.T) {
	c := subscribed()
	c.Unsubscribe(1)
	c.Tell(notes.Lost(1, 2))
	c.Tell(notes.Event(1, event(0, 1), 1))
	if log := c.TakeLog(); log != nil {
		t.Errorf("Frames: %v", log)
	}
}

func TestLogIsNewMemory(t *testing.T) {
	c := subscribed()
	for number := 1; number <= 3; number++ {
		c.Tell(notes.Event(0, event(0, number), 1))
	}
	old := c.TakeLog()
	// Fewer than before: they would fit into the memory of the first answer.
	c.Tell(notes.Lost(0, 2))
	if old[0] != (api.Entry{Event: event(0, 1)}) {
		t.Errorf("P2: an answer is written into: %v", old)
	}
	clear(old[:cap(old)])
	if log := c.TakeLog(); !slices.Equal(log, []api.Entry{{Lost: 2}}) {
		t.Errorf("P2: an answer is kept: %v", log)
	}
}
