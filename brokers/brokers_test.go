package brokers

import (
	"slices"
	"testing"

	"rover/api"
	"rover/filters"
	"rover/notes"
)

func below(t *testing.T, n int) filters.Filter {
	t.Helper()
	f, ok := filters.New([]api.Test{{Op: api.Below, N: n}})
	if !ok {
		t.Fatalf("P5: a filter is refused")
	}
	return f
}

func TestABrokerKnowsNothingAtFirst(t *testing.T) {
	var b Broker
	for client := range api.Clients {
		for slot := range api.Slots {
			if known := b.Known(client, slot); known != nil {
				t.Errorf("Words: of %d, %d: %+v", client, slot, known)
			}
		}
	}
	for known := range b.Wanting([3]int{}) {
		t.Errorf("Frames: wanted by %+v", known)
	}
}

func TestLearnByAge(t *testing.T) {
	for k, c := range []struct{ first, second, way int }{
		{0, 0, 1},
		{0, 1, 2},
		{0, 9, 2},
		{1, 0, 1},
		{5, 5, 1},
		{5, 4, 1},
		{5, 6, 2},
	} {
		var b Broker
		b.Learn(Subscription{Client: 3, Slot: 1, Age: c.first, Filter: below(t, 1)}, 1)
		b.Learn(Subscription{Client: 3, Slot: 1, Age: c.second, Filter: below(t, 2)}, 2)
		known := b.Known(3, 1)
		if known == nil || known.Way != c.way || known.Age != max(c.first, c.second) || known.Filter != below(t, c.way) {
			t.Errorf("Frames: Sub, line %d: %+v", k, known)
		}
		if b.Known(3, 0) != nil || b.Known(1, 1) != nil {
			t.Errorf("Frames: Sub, line %d: others are known", k)
		}
	}
}

func TestForgetByAge(t *testing.T) {
	for k, c := range []struct {
		known, told int
		forgotten   bool
	}{
		{0, 0, true},
		{0, 3, true},
		{3, 3, true},
		{3, 2, false},
		{3, 4, true},
	} {
		var b Broker
		for client := range api.Clients {
			for slot := range api.Slots {
				b.Learn(Subscription{Client: client, Slot: slot, Age: c.known}, Here)
			}
		}
		b.Forget(Subscription{Client: 2, Slot: 0, Age: c.told})
		for client := range api.Clients {
			for slot := range api.Slots {
				gone := client == 2 && slot == 0 && c.forgotten
				if (b.Known(client, slot) == nil) != gone {
					t.Errorf("Frames: Unsub, line %d: of %d, %d: %+v", k, client, slot, b.Known(client, slot))
				}
			}
		}
	}
}

func TestForgetWhatIsNotKnown(t *testing.T) {
	var b Broker
	b.Forget(Subscription{Client: 1, Slot: 1, Age: 4})
	b.Learn(Subscription{Client: 1, Slot: 1, Age: 2}, 3)
	if known := b.Known(1, 1); known == nil || known.Way != 3 {
		t.Errorf("Frames: Sub after Unsub: %+v", known)
	}
}

func TestWantingGoesByClientsThenSlots(t *testing.T) {
	var b Broker
	for _, s := range []Subscription{{Client: 3, Slot: 0}, {Client: 0, Slot: 1}, {Client: 2, Slot: 1}, {Client: 2, Slot: 0}, {Client: 0, Slot: 0, Filter: below(t, 5)}} {
		b.Learn(s, Here)
	}
	for field, want := range map[int][][2]int{
		4: {{0, 0}, {0, 1}, {2, 0}, {2, 1}, {3, 0}},
		5: {{0, 1}, {2, 0}, {2, 1}, {3, 0}},
	} {
		var got [][2]int
		for known := range b.Wanting([3]int{field}) {
			got = append(got, [2]int{known.Client, known.Slot})
		}
		if !slices.Equal(got, want) {
			t.Errorf("Frames: Event of %d: %v, want %v", field, got, want)
		}
	}
}

func TestWantingMayBeLeft(t *testing.T) {
	var b Broker
	b.Learn(Subscription{Client: 1}, Here)
	b.Learn(Subscription{Client: 2}, Here)
	for known := range b.Wanting([3]int{}) {
		if known.Client != 1 {
			t.Errorf("client %d after the first", known.Client)
		}
		break
	}
}

// tell releases what was kept, and lists the entries it tells.
func tell(k *Known) []api.Entry {
	var told []api.Entry
	k.Release(func(note notes.Note) {
		told = append(told, note.Entry)
	})
	return told
}

func TestKeepTheFirstAndCountMore(t *testing.T) {
	for many := range 10 {
		k := &Known{Subscription: Subscription{Slot: 1}}
		var want []api.Entry
		if many > api.MaxKept {
			want = append(want, api.Entry{Slot: 1, Lost: many - api.MaxKept})
		}
		for i := range many {
			note := notes.Event(1, api.Event{Publisher: 2, Number: i + 1}, 3)
			k.Keep(note)
			if i < api.MaxKept {
				want = append(want, note.Entry)
			}
		}
		if got := tell(k); !slices.Equal(got, want) {
			t.Errorf("P4: %d kept: %v, want %v", many, got, want)
		}
		if got := tell(k); got != nil {
			t.Errorf("P4: kept on: %v", got)
		}
	}
}

func TestReleaseTellsTheStay(t *testing.T) {
	k := &Known{}
	note := notes.Event(0, api.Event{Number: 1}, 7)
	k.Keep(note)
	k.Release(func(got notes.Note) {
		if got != note {
			t.Errorf("Frames: %+v, want %+v", got, note)
		}
	})
}

func TestAfterReleaseThereIsRoomAgain(t *testing.T) {
	k := &Known{}
	for i := range 8 {
		k.Keep(notes.Event(0, api.Event{Number: i + 1}, 1))
	}
	tell(k)
	k.Keep(notes.Event(0, api.Event{Number: 9}, 1))
	if got := tell(k); !slices.Equal(got, []api.Entry{{Event: api.Event{Number: 9}}}) {
		t.Errorf("P4: %v", got)
	}
}
