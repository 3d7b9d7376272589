package rover

import (
	"slices"
	"testing"

	"rover/api"
)

// These tests put frames into links by hand: as many as they need, in just the links they need, and some that no calls make.

func start(t *testing.T, parents ...int) *Net {
	t.Helper()
	n, e := New(parents)
	if n == nil || e != api.OK {
		t.Fatalf("P3: New(%v): %d", parents, e)
	}
	return n
}

func fill(n *Net, from, to, many int) {
	for range many {
		n.links.Send(from, to, &frame{kind: eventFrame})
	}
}

func TestDeliverTakesOneFrameOfItsLink(t *testing.T) {
	n := start(t, 0, 0)
	fill(n, 1, 0, 2)
	fill(n, 0, 1, 1)
	for k, c := range []struct {
		from, to int
		e        api.Errno
		left     []api.Link
	}{
		{0, 2, api.ErrNone, []api.Link{{From: 0, To: 1, Many: 1}, {From: 1, To: 0, Many: 2}}},
		{1, 0, api.OK, []api.Link{{From: 0, To: 1, Many: 1}, {From: 1, To: 0, Many: 1}}},
		{1, 2, api.ErrArg, []api.Link{{From: 0, To: 1, Many: 1}, {From: 1, To: 0, Many: 1}}},
		{1, 0, api.OK, []api.Link{{From: 0, To: 1, Many: 1}}},
		{1, 0, api.ErrNone, []api.Link{{From: 0, To: 1, Many: 1}}},
		{0, 1, api.OK, nil},
		{0, 1, api.ErrNone, nil},
	} {
		if e := n.Deliver(c.from, c.to); e != c.e {
			t.Errorf("P6: line %d: %d, want %d", k, e, c.e)
		}
		if p := n.Pending(); !slices.Equal(p, c.left) {
			t.Errorf("P8: line %d: %v, want %v", k, p, c.left)
		}
	}
}

func TestFullAtMaxFramesInAllLinksTogether(t *testing.T) {
	n := start(t, 0, 1)
	n.Attach(0, 0)
	fill(n, 0, 1, 40)
	fill(n, 1, 2, 59)
	if m, e := n.Publish(0, [3]int{}); m != 1 || e != api.OK {
		t.Errorf("P7: Publish at 99 frames: %d, %d", m, e)
	}
	if e := n.Attach(1, 2); e != api.OK {
		t.Errorf("P7: Attach at 99 frames: %d", e)
	}
	for _, more := range []int{1, 1, 30} {
		fill(n, 2, 1, more)
		if m, e := n.Publish(0, [3]int{}); m != 0 || e != api.ErrFull {
			t.Errorf("P7: Publish at %d frames: %d, %d", n.links.Waiting(), m, e)
		}
		if e := n.Attach(2, 0); e != api.ErrFull {
			t.Errorf("P7: Attach at %d frames: %d", n.links.Waiting(), e)
		}
	}
	if v, _ := n.Look(2); v != (api.View{At: -1, Home: -1}) {
		t.Errorf("P1: a refused Attach changes %+v", v)
	}
}

func TestFullIsTheLastOfTheErrors(t *testing.T) {
	n := start(t, 0)
	n.Attach(0, 0)
	fill(n, 0, 1, 100)
	if e := n.Attach(0, 2); e != api.ErrArg {
		t.Errorf("P4: no broker: %d", e)
	}
	if e := n.Attach(0, 1); e != api.ErrHere {
		t.Errorf("P4: at a broker: %d", e)
	}
	if _, e := n.Publish(4, [3]int{}); e != api.ErrArg {
		t.Errorf("P6: no client: %d", e)
	}
	if _, e := n.Publish(1, [3]int{}); e != api.ErrAway {
		t.Errorf("P6: away: %d", e)
	}
}

func TestFullRefusesNothingElse(t *testing.T) {
	n := start(t, 0)
	n.Attach(0, 0)
	fill(n, 0, 1, 101)
	if e := n.Detach(0); e != api.OK {
		t.Errorf("P4: Detach: %d", e)
	}
	if e := n.Attach(0, 0); e != api.ErrFull {
		t.Errorf("P7: Attach to its home: %d", e)
	}
	for range 2 {
		if e := n.Deliver(0, 1); e != api.OK {
			t.Errorf("P7: Deliver: %d", e)
		}
	}
	if e := n.Attach(0, 0); e != api.OK {
		t.Errorf("P7: Attach at 99 frames again: %d", e)
	}
	if m, e := n.Publish(0, [3]int{}); m != 1 || e != api.OK {
		t.Errorf("P7: Publish at 99 frames again: %d, %d", m, e)
	}
}

func TestFullRefusesSubscriptions(t *testing.T) {
	n := start(t, 0, 1)
	n.Attach(0, 2)
	n.Attach(1, 2)
	fill(n, 0, 1, 98)
	if s, e := n.Subscribe(0, nil); s != 0 || e != api.OK {
		t.Errorf("P7: Subscribe at 98 frames: %d, %d", s, e)
	}
	if s, e := n.Subscribe(0, nil); s != 1 || e != api.OK {
		t.Errorf("P7: Subscribe at 99 frames: %d, %d", s, e)
	}
	before := n.clients[0].View()
	for k, c := range []struct{ got, want api.Errno }{
		{n.Unsubscribe(0, 0), api.ErrFull},
		{n.Unsubscribe(1, 0), api.ErrNone},
		{n.Unsubscribe(2, 0), api.ErrAway},
		{n.Unsubscribe(0, 2), api.ErrArg},
		{refusal(n.Subscribe(0, nil)), api.ErrNone},
		{refusal(n.Subscribe(1, nil)), api.ErrFull},
		{refusal(n.Subscribe(2, nil)), api.ErrAway},
		{refusal(n.Subscribe(1, []api.Test{{}})), api.ErrArg},
	} {
		if c.got != c.want {
			t.Errorf("P5: at 100 frames, line %d: %d, want %d", k, c.got, c.want)
		}
	}
	if n.clients[0].View() != before || n.clients[1].View().Slots != [2]bool{} || n.links.Waiting() != 100 {
		t.Errorf("P1: a refusal changes something")
	}
	n.Deliver(0, 1)
	if e := n.Unsubscribe(0, 0); e != api.OK {
		t.Errorf("P7: Unsubscribe at 99 frames: %d", e)
	}
	n.Deliver(0, 1)
	if s, e := n.Subscribe(1, nil); s != 0 || e != api.OK {
		t.Errorf("P7: Subscribe at 99 frames again: %d, %d", s, e)
	}
}

func TestBusyComesAheadOfFullAndNone(t *testing.T) {
	n := start(t, 0)
	n.Attach(0, 0)
	n.Subscribe(0, nil)
	n.Deliver(0, 1)
	n.Detach(0)
	n.Attach(0, 1)
	fill(n, 0, 1, 100)
	for k, c := range []struct{ got, want api.Errno }{
		{refusal(n.Subscribe(0, nil)), api.ErrBusy},
		{refusal(n.Subscribe(0, []api.Test{{}})), api.ErrArg},
		{n.Unsubscribe(0, 0), api.ErrBusy},
		{n.Unsubscribe(0, 1), api.ErrBusy},
		{n.Unsubscribe(0, -1), api.ErrArg},
		{n.Detach(0), api.ErrBusy},
		{n.Attach(0, 0), api.ErrHere},
	} {
		if c.got != c.want {
			t.Errorf("P4, P5: line %d: %d, want %d", k, c.got, c.want)
		}
	}
	if m, e := n.Publish(0, [3]int{}); m != 0 || e != api.ErrFull {
		t.Errorf("P6: Publish: %d, %d", m, e)
	}
}

// refusal tells the error, or none that there is, if a slot stands beside it.
func refusal(slot int, e api.Errno) api.Errno {
	if slot != 0 {
		return -1
	}
	return e
}

func TestAnEventThatComesAgainIsNotTold(t *testing.T) {
	n := start(t, 0)
	n.Attach(0, 1)
	n.Subscribe(0, nil)
	n.Subscribe(0, nil)
	for k, c := range []struct {
		number, stay int
		told         bool
	}{
		{2, 1, true},
		{2, 1, false},
		{1, 1, false},
		{3, 1, true},
		{6, 2, true},
		{4, 1, true},
		{5, 2, false},
	} {
		event := api.Event{Publisher: 3, Number: c.number, Fields: [3]int{7, 8, 9}}
		n.links.Send(0, 1, &frame{kind: eventFrame, event: event, stay: c.stay})
		n.Deliver(0, 1)
		var want []api.Entry
		if c.told {
			want = []api.Entry{{Slot: 0, Event: event}, {Slot: 1, Event: event}}
		}
		if log, _ := n.Log(0); !slices.Equal(log, want) {
			t.Errorf("Frames: line %d: %v, want %v", k, log, want)
		}
	}
}

func TestARefusedEventTakesNoNumber(t *testing.T) {
	n := start(t, 0)
	n.Attach(0, 0)
	n.Publish(0, [3]int{})
	fill(n, 0, 1, 100)
	n.Publish(0, [3]int{})
	n.Deliver(0, 1)
	if m, e := n.Publish(0, [3]int{}); m != 2 || e != api.OK {
		t.Errorf("P1: %d, %d, want 2", m, e)
	}
}

func TestPendingIsNewMemory(t *testing.T) {
	n := start(t, 0, 0, 0)
	fill(n, 0, 1, 1)
	fill(n, 0, 2, 2)
	fill(n, 3, 0, 3)
	want := []api.Link{{From: 0, To: 1, Many: 1}, {From: 0, To: 2, Many: 2}, {From: 3, To: 0, Many: 3}}
	first, second := n.Pending(), n.Pending()
	clear(first[:cap(first)])
	if !slices.Equal(second, want) {
		t.Errorf("P2: two answers share memory: %v", second)
	}
	if p := n.Pending(); !slices.Equal(p, want) {
		t.Errorf("P2: an answer is kept: %v", p)
	}
}

func TestCloseCountsFramesOfAllLinks(t *testing.T) {
	n := start(t, 0, 1, 1)
	fill(n, 0, 1, 3)
	fill(n, 3, 1, 120)
	n.Deliver(0, 1)
	if m, e := n.Close(); m != 122 || e != api.OK {
		t.Errorf("P8: Close: %d, %d, want 122", m, e)
	}
	if m, e := n.Close(); m != 0 || e != api.ErrClosed {
		t.Errorf("P8: Close again: %d, %d", m, e)
	}
	if p := n.Pending(); p != nil {
		t.Errorf("P3: Pending of a closed net: %v", p)
	}
	if e := n.Deliver(3, 1); e != api.ErrClosed {
		t.Errorf("P3: Deliver on a closed net: %d", e)
	}
}
