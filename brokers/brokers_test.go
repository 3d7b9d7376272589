package brokers

import (
	"slices"
	"testing"

	"rover/api"
	"rover/filters"
	"rover/notes"
)

func below(t *testing.T, n int) filters.Filter {
	t.Helper()
	f, ok := filters.New([]api.Test{{Op: api.Below, N: n}})
	if !ok {
		t.Fatalf("P5: a filter is refused")
	}
	return f
}

func TestABrokerKnowsNothingAtFirst(t *testing.T) {
	var b Broker
	for client := range api.Clients {
		for slot := range api.Slots {
			if known := b.Known(client, slot); known != nil {
				t.Errorf("Words: of %d, %d: %+v", client, slot, known)
			}
		}
	}
	for known := range b.Wanting([3]int{}) {
		t.Errorf("Frames: wanted by %+v", known)
	}
}

func TestLearnByAge(t *testing.T) {
	for k, c := range []struct{ first, second, way int }{
		{0, 0, 1},
		{0, 1, 2},
		{0, 9, 2},
		{1, 0, 1},
		{5, 5, 1},
		{5, 4, 1},
		{5, 6, 2},
	} {
		var b Broker
		b.Learn(Subscription{Client: 3, Slot: 1, Age: c.first, Filter: below(t, 1)}, 1)
		b.Learn(Subscription{Client: 3, Slot: 1, Age: c.second, Filter: below(t, 2)}, 2)
		known := b.Known(3, 1)
		if known == nil || known.Way != c.way || known.Age != max(c.first, c.second) || known.Filter != below(t, c.way) {
			t.Errorf("Frames: Sub, line %d: %+v", k, known)
		}
		if b.Known(3, 0) != nil || b.Known(1, 1) != nil {
			t.Errorf("Frames: Sub, line %d: others are known", k)
		}
	}
}

func TestForgetByAge(t *testing.T) {
	for k, c := range []struct {
		known, told int
		forgotten   bool
	}{
		{0, 0, true},
		{0, 3, true},
		{3, 3, true},
		{3, 2, false},
		{3, 4, true},
	} {
		var b Broker
		for client := range api.Clients {
			for slot := range api.Slots {
				b.Learn(Subscription{Client: client, Slot: slot, Age: c.known}, Here)
			}
		}
		b.Forget(Subscription{Client: 2, Slot: 0, Age: c.told})
		for client := range api.Clients {
			for slot := range api.Slots {
				gone := client == 2 && slot == 0 && c.forgotten
				if (b.Known(client, slot) == nil) != gone {
					t.Errorf("Frames: Unsub, line %d: of %d, %d: %+v", k, client, slot, b.Known(client, slot))
				}
			}
		}
	}
}

func TestForgetWhatIsNotKnown(t *testing.T) {
	var b Broker
	b.Forget(Subscription{Client: 1, Slot: 1, Age: 4})
	b.Learn(Subscription{Client: 1, Slot: 1, Age: 2}, 3)
	if known := b.Known(1, 1); known == nil || known.Way != 3 {
		t.Errorf("Frames: Sub after Unsub: %+v", known)
	}
}

func TestWantingGoesByClientsThenSlots(t *testing.T) {
	var b Broker
	for _, s := range []Subscription{{Client: 3, Slot: 0}, {Client: 0, Slot: 1}, {Client: 2, Slot: 1}, {Client: 2, Slot: 0}, {Client: 0, Slot: 0, Filter: below(t, 5)}} {
		b.Learn(s, Here)
	}
	for field, want := range map[int][][2]int{
		4: {{0, 0}, {0, 1}, {2, 0}, {2, 1}, {3, 0}},
		5: {{0, 1}, {2, 0}, {2, 1}, {3, 0}},
	} {
		var got [][2]int
		for known := range b.Wanting([3]int{field}) {
			got = append(got, [2]int{known.Client, known.Slot})
		}
		if !slices.Equal(got, want) {
			t.Errorf("Frames: Event of %d: %v, want %v", field, got, want)
		}
	}
}

func TestWantingMayBeLeft(t *testing.T) {
	var b Broker
	b.Learn(Subscription{Client: 1}, Here)
	b.Learn(Subscription{Client: 2}, Here)
	for known := range b.Wanting([3]int{}) {
		if known.Client != 1 {
			t.Errorf("client %d after the first", known.Client)
		}
		break
	}
}

// tell releases what was kept, and lists the entries it tells.
func tell(k *Known) []api.Entry {
	var told []api.Entry
	k.Release(func(note notes.Note) {
		told = append(told, note.Entry)
	})
	return told
}

func TestKeepTheFirstAndCountMore(t *testing.T) {
	for many := range 10 {
		k := &Known{Subscription: Subscription{Slot: 1}}
		var want []api.Entry
		if many > api.MaxKept {
			want = append(want, api.Entry{Slot: 1, Lost: many - api.MaxKept})
		}
		for i := range many {
			note := notes.Event(1, api.Event{Publisher: 2, Number: i + 1}, 3)
			k.Keep(note)
			if i < api.MaxKept {
				want = append(want, note.Entry)
			}
		}
		if got := tell(k); !slices.Equal(got, want) {
			t.Errorf("P4: %d kept: %v, want %v", many, got, want)
		}
		if got := tell(k); got != nil {
			t.Errorf("P4: kept on: %v", got)
		}
	}
}

func TestReleaseTellsTheStay(t *testing.T) {
	k := &Known{}
	note := notes.Event(0, api.Event{Number: 1}, 7)
	k.Keep(note)
	k.Release(func(got notes.Note) {
		if got != note {
			t.Errorf("Frames: %+v, want %+v", got, note)
		}
	})
}

func TestAfterReleaseThereIsRoomAgain(t *testing.T) {
	k := &Known{}
	for i := range 8 {
		k.Keep(notes.Event(0, api.Event{Number: i + 1}, 1))
	}
	tell(k)
	k.Keep(notes.Event(0, api.Event{Number: 9}, 1))
	if got := tell(k); !slices.Equal(got, []api.Entry{{Event: api.Event{Number: 9}}}) {
		t.Errorf("P4: %v", got)
	}
}

func note(number int) notes.Note {
	return notes.Event(1, api.Event{Publisher: 2, Number: number}, 3)
}

func entry(number int) api.Entry {
	return note(number).Entry
}

func TestTurnHoldsWhateverWasKnown(t *testing.T) {
	moved := Subscription{Client: 3, Slot: 1, Age: 4, Filter: below(t, 9)}
	for age := -1; age < 7; age++ {
		var b Broker
		if age >= 0 {
			b.Learn(Subscription{Client: 3, Slot: 1, Age: age, Filter: below(t, 1)}, Here)
		}
		b.Learn(Subscription{Client: 3, Slot: 0, Age: 2}, 5)
		b.Turn(moved, 2)
		known := b.Known(3, 1)
		if known == nil || known.Subscription != moved || known.Way != 2 || known.Waits() {
			t.Errorf("Frames: Move: age %d: %+v", age, known)
		}
		if other := b.Known(3, 0); other == nil || other.Way != 5 || other.Age != 2 {
			t.Errorf("Frames: Move: the other slot: %+v", other)
		}
	}
}

func TestTurnHandsOverWhatWasKept(t *testing.T) {
	for _, many := range []int{0, 1, 6, 8} {
		var b Broker
		s := Subscription{Client: 1, Slot: 1}
		b.Learn(s, Here)
		var want []api.Entry
		if many > api.MaxKept {
			want = append(want, api.Entry{Slot: 1, Lost: many - api.MaxKept})
		}
		for i := range many {
			b.Known(1, 1).Keep(note(i))
			if i < api.MaxKept {
				want = append(want, entry(i))
			}
		}
		s.Age++
		kept := b.Turn(s, 3)
		var got []api.Entry
		kept.tell(1, func(n notes.Note) {
			got = append(got, n.Entry)
		})
		if !slices.Equal(got, want) {
			t.Errorf("Frames: Move: %v, want %v", got, want)
		}
		if left := tell(b.Known(1, 1)); left != nil {
			t.Errorf("Frames: Move: kept on: %v", left)
		}
	}
}

func TestAwaitIsHereAndWaits(t *testing.T) {
	moved := Subscription{Client: 2, Slot: 0, Age: 1, Filter: below(t, 9)}
	for _, knew := range []bool{false, true} {
		var b Broker
		if knew {
			b.Learn(Subscription{Client: 2, Slot: 0}, 4)
			if b.Known(2, 0).Waits() {
				t.Error("Words: it waits without a move")
			}
		}
		b.Await(moved)
		known := b.Known(2, 0)
		if known == nil || known.Subscription != moved || known.Way != Here || !known.Waits() {
			t.Errorf("P4: %+v", known)
		}
		b.Learn(Subscription{Client: 2, Slot: 0, Filter: below(t, 1)}, 4)
		if b.Known(2, 0) != known {
			t.Errorf("Frames: a late Sub: %+v", b.Known(2, 0))
		}
	}
}

func TestWhileItWaitsAllIsKept(t *testing.T) {
	var b Broker
	b.Await(Subscription{Client: 0, Slot: 1, Age: 1})
	known := b.Known(0, 1)
	rest := Kept{notes: []notes.Note{note(1), note(2)}, more: 3}
	want := []api.Entry{{Slot: 1, Lost: 3}, entry(1), entry(2)}
	for number := 10; number < 40; number++ {
		known.Keep(note(number))
		want = append(want, entry(number))
	}
	var got []api.Entry
	known.Arrive(rest, func(n notes.Note) {
		got = append(got, n.Entry)
	})
	if !slices.Equal(got, want) {
		t.Errorf("Frames: Rest: %v, want %v", got, want)
	}
	if known.Waits() || known.Way != Here {
		t.Errorf("Frames: Rest: %+v", known)
	}
	for number := range 8 {
		known.Keep(note(number))
	}
	if got := tell(known); len(got) != 7 || got[0].Lost != 2 {
		t.Errorf("Words: it waits no longer: %v", got)
	}
}

func TestAnEmptyRest(t *testing.T) {
	var b Broker
	b.Await(Subscription{Client: 0, Slot: 1, Age: 1})
	b.Known(0, 1).Arrive(Kept{}, func(n notes.Note) {
		t.Errorf("Frames: Rest: %+v", n)
	})
	if b.Known(0, 1).Waits() {
		t.Error("Frames: Rest: it waits on")
	}
}
