package rover_test

import (
	"math"
	"slices"
	"testing"

	"rover/api"
	"rover/rover"
)

// settle delivers all frames.
func settle(t *testing.T, n *rover.Net) {
	t.Helper()
	for range 10000 {
		pending := n.Pending()
		if len(pending) == 0 {
			return
		}
		deliver(t, n, pending[0].From, pending[0].To)
	}
	t.Fatalf("P1: frames without end")
}

// deliver delivers along a row of brokers, one frame of each link.
func deliver(t *testing.T, n *rover.Net, row ...int) {
	t.Helper()
	for i, from := range row[:len(row)-1] {
		if e := n.Deliver(from, row[i+1]); e != api.OK {
			t.Fatalf("P6: Deliver(%d, %d): %d", from, row[i+1], e)
		}
	}
}

func attach(t *testing.T, n *rover.Net, client, broker int) {
	t.Helper()
	if e := n.Attach(client, broker); e != api.OK {
		t.Fatalf("P4: Attach(%d, %d): %d", client, broker, e)
	}
}

func detach(t *testing.T, n *rover.Net, client int) {
	t.Helper()
	if e := n.Detach(client); e != api.OK {
		t.Fatalf("P4: Detach(%d): %d", client, e)
	}
}

func subscribe(t *testing.T, n *rover.Net, client int, filter ...api.Test) int {
	t.Helper()
	slot, e := n.Subscribe(client, filter)
	if e != api.OK {
		t.Fatalf("P5: Subscribe(%d, %v): %d", client, filter, e)
	}
	return slot
}

func unsubscribe(t *testing.T, n *rover.Net, client, slot int) {
	t.Helper()
	if e := n.Unsubscribe(client, slot); e != api.OK {
		t.Fatalf("P5: Unsubscribe(%d, %d): %d", client, slot, e)
	}
}

// publish publishes an event, and tells it.
func publish(t *testing.T, n *rover.Net, client int, fields ...int) api.Event {
	t.Helper()
	event := api.Event{Publisher: client}
	copy(event.Fields[:], fields)
	number, e := n.Publish(client, event.Fields)
	if e != api.OK {
		t.Fatalf("P6: Publish(%d, %v): %d", client, fields, e)
	}
	event.Number = number
	return event
}

func wantLog(t *testing.T, what string, n *rover.Net, client int, want ...api.Entry) {
	t.Helper()
	if log, e := n.Log(client); !slices.Equal(log, want) || e != api.OK {
		t.Errorf("%s: Log(%d): %v, %d, want %v", what, client, log, e, want)
	}
}

func wantPending(t *testing.T, what string, n *rover.Net, want ...api.Link) {
	t.Helper()
	if pending := n.Pending(); !slices.Equal(pending, want) {
		t.Errorf("%s: Pending: %v, want %v", what, pending, want)
	}
}

func TestRefusalsOfSubscribe(t *testing.T) {
	n := start(t, 0, 0)
	attach(t, n, 0, 1)
	attach(t, n, 1, 0)
	subscribe(t, n, 0)
	subscribe(t, n, 0)
	before, pending := looks(t, n), n.Pending()
	good := api.Test{Op: api.Equal}
	for k, c := range []struct {
		client int
		filter []api.Test
		e      api.Errno
	}{
		{-1, nil, api.ErrArg},
		{4, nil, api.ErrArg},
		{4, []api.Test{{}}, api.ErrArg},
		{1, []api.Test{{}}, api.ErrArg},
		{1, []api.Test{{Op: 5}}, api.ErrArg},
		{1, []api.Test{{Op: -1}}, api.ErrArg},
		{1, []api.Test{{Field: 3, Op: 1}}, api.ErrArg},
		{1, []api.Test{{Field: -1, Op: 1}}, api.ErrArg},
		{1, []api.Test{{Field: math.MaxInt, Op: 1}}, api.ErrArg},
		{1, []api.Test{good, good, {Field: math.MinInt, Op: 1}}, api.ErrArg},
		{1, []api.Test{good, good, good, good}, api.ErrArg},
		{1, make([]api.Test, 5000), api.ErrArg},
		{2, []api.Test{{}}, api.ErrArg},
		{2, nil, api.ErrAway},
		{0, []api.Test{{}}, api.ErrArg},
		{0, []api.Test{good}, api.ErrNone},
		{0, nil, api.ErrNone},
	} {
		if s, e := n.Subscribe(c.client, c.filter); s != 0 || e != c.e {
			t.Errorf("P5: line %d: %d, %d, want 0, %d", k, s, e, c.e)
		}
	}
	if after := looks(t, n); after != before {
		t.Errorf("P1: refusals change %v to %v", before, after)
	}
	wantPending(t, "P1: after refusals", n, pending...)
}

func TestSubscribeAwayWithBothSlotsTaken(t *testing.T) {
	n := start(t)
	attach(t, n, 0, 0)
	subscribe(t, n, 0)
	subscribe(t, n, 0)
	detach(t, n, 0)
	if s, e := n.Subscribe(0, nil); s != 0 || e != api.ErrAway {
		t.Errorf("P5: Subscribe: %d, %d", s, e)
	}
	if e := n.Unsubscribe(0, 1); e != api.ErrAway {
		t.Errorf("P5: Unsubscribe: %d", e)
	}
	if v, _ := n.Look(0); v != (api.View{At: -1, Home: 0, Slots: [2]bool{true, true}}) {
		t.Errorf("P8: Look: %+v", v)
	}
}

func TestRefusalsOfUnsubscribe(t *testing.T) {
	n := start(t, 0, 0)
	attach(t, n, 0, 1)
	subscribe(t, n, 0)
	settle(t, n)
	for k, c := range []struct {
		client, slot int
		e            api.Errno
	}{
		{-1, 0, api.ErrArg},
		{4, 0, api.ErrArg},
		{0, -1, api.ErrArg},
		{0, 2, api.ErrArg},
		{1, 2, api.ErrArg},
		{1, 0, api.ErrAway},
		{0, 1, api.ErrNone},
	} {
		if e := n.Unsubscribe(c.client, c.slot); e != c.e {
			t.Errorf("P5: line %d: %d, want %d", k, e, c.e)
		}
	}
	wantPending(t, "P1: after refusals", n)
	if v, _ := n.Look(0); v != (api.View{At: 1, Home: 1, Slots: [2]bool{true, false}}) {
		t.Errorf("P1: after refusals: %+v", v)
	}
	unsubscribe(t, n, 0, 0)
	if e := n.Unsubscribe(0, 0); e != api.ErrNone {
		t.Errorf("P5: again: %d", e)
	}
}

func TestTheLeastFreeSlot(t *testing.T) {
	n := start(t)
	attach(t, n, 2, 0)
	for k, c := range []struct {
		out, slot int
		slots     [2]bool
	}{
		{-1, 0, [2]bool{true, false}},
		{-1, 1, [2]bool{true, true}},
		{0, 0, [2]bool{true, true}},
		{1, 1, [2]bool{true, true}},
	} {
		if c.out >= 0 {
			unsubscribe(t, n, 2, c.out)
		}
		if slot := subscribe(t, n, 2); slot != c.slot {
			t.Errorf("P5: line %d: %d, want %d", k, slot, c.slot)
		}
		if v, _ := n.Look(2); v != (api.View{At: 0, Home: 0, Slots: c.slots}) {
			t.Errorf("P8: line %d: %+v", k, v)
		}
	}
	unsubscribe(t, n, 2, 0)
	unsubscribe(t, n, 2, 1)
	if slot := subscribe(t, n, 2); slot != 0 {
		t.Errorf("P5: both free: %d", slot)
	}
	for client, v := range looks(t, n) {
		if client != 2 && v.Slots != [2]bool{} {
			t.Errorf("P8: client %d: %+v", client, v)
		}
	}
}

// 0 - 1 - 3, 1 - 4, 0 - 2
func TestSubAndUnsubFramesGoToAllBrokers(t *testing.T) {
	n := start(t, 0, 0, 1, 1)
	attach(t, n, 0, 1)
	call := func(k int) {
		if k == 0 {
			subscribe(t, n, 0)
		} else {
			unsubscribe(t, n, 0, 0)
		}
	}
	for k := range 2 {
		call(k)
		wantPending(t, "P5: to all neighbours", n, api.Link{From: 1, To: 0, Many: 1}, api.Link{From: 1, To: 3, Many: 1}, api.Link{From: 1, To: 4, Many: 1})
		deliver(t, n, 1, 3)
		wantPending(t, "Frames: a leaf sends nothing back", n, api.Link{From: 1, To: 0, Many: 1}, api.Link{From: 1, To: 4, Many: 1})
		deliver(t, n, 1, 0)
		wantPending(t, "Frames: to all other neighbours", n, api.Link{From: 0, To: 2, Many: 1}, api.Link{From: 1, To: 4, Many: 1})
		deliver(t, n, 0, 2)
		deliver(t, n, 1, 4)
		wantPending(t, "Frames: all brokers were told", n)
	}
}

func TestUnsubscribeHoldsAtOnceAtItsBroker(t *testing.T) {
	n := start(t, 0)
	attach(t, n, 0, 0)
	attach(t, n, 1, 1)
	subscribe(t, n, 0)
	settle(t, n)
	unsubscribe(t, n, 0, 0)
	publish(t, n, 0)
	publish(t, n, 1)
	wantPending(t, "P6: broker 1 does not know yet", n, api.Link{From: 0, To: 1, Many: 1}, api.Link{From: 1, To: 0, Many: 1})
	settle(t, n)
	wantLog(t, "P5: no subscription", n, 0)
	publish(t, n, 1)
	wantPending(t, "P5: broker 1 knows nothing any more", n)
}

// A client has a subscription at broker 1, none, and another one in the same slot at broker 2; broker 0 is told of both.
func TestOfTwoSubscriptionsInASlotTheLaterOneCounts(t *testing.T) {
	for _, order := range [][]int{{1, 1, 2}, {1, 2, 1}, {2, 1, 1}} {
		n := start(t, 0, 0, 0)
		attach(t, n, 3, 0)
		attach(t, n, 0, 1)
		subscribe(t, n, 0)
		unsubscribe(t, n, 0, 0)
		detach(t, n, 0)
		attach(t, n, 0, 2)
		subscribe(t, n, 0)
		for _, from := range order {
			deliver(t, n, from, 0)
		}
		wantPending(t, "Frames: Sub and Unsub are sent on in each case", n, api.Link{From: 0, To: 1, Many: 1}, api.Link{From: 0, To: 2, Many: 2}, api.Link{From: 0, To: 3, Many: 3})
		event := publish(t, n, 3)
		wantPending(t, "Frames: the way of the greater age", n, api.Link{From: 0, To: 1, Many: 1}, api.Link{From: 0, To: 2, Many: 3}, api.Link{From: 0, To: 3, Many: 3})
		settle(t, n)
		wantLog(t, "P10: a later subscription", n, 0, api.Entry{Event: event})
	}
}

// The later Sub frame comes ahead of the earlier Sub and Unsub frames, and has another filter.
func TestAnEarlierSubDoesNotTurnTheWay(t *testing.T) {
	n := start(t, 0, 0)
	attach(t, n, 3, 0)
	attach(t, n, 0, 1)
	subscribe(t, n, 0)
	unsubscribe(t, n, 0, 0)
	detach(t, n, 0)
	attach(t, n, 0, 2)
	subscribe(t, n, 0, api.Test{Op: api.Equal, N: 5})
	deliver(t, n, 2, 0)
	deliver(t, n, 1, 0)
	publish(t, n, 3, 4)
	wantPending(t, "Frames: a lesser age", n, api.Link{From: 0, To: 1, Many: 1}, api.Link{From: 0, To: 2, Many: 1}, api.Link{From: 1, To: 0, Many: 1})
	event := publish(t, n, 3, 5)
	wantPending(t, "Frames: a lesser age", n, api.Link{From: 0, To: 1, Many: 1}, api.Link{From: 0, To: 2, Many: 2}, api.Link{From: 1, To: 0, Many: 1})
	settle(t, n)
	wantLog(t, "P6", n, 0, api.Entry{Event: event})
}

func TestFiltersAreTheCallers(t *testing.T) {
	n := start(t, 0)
	attach(t, n, 0, 0)
	attach(t, n, 1, 1)
	room := []api.Test{{Op: api.Least, N: 5}, {Field: 1, Op: api.Equal, N: 1}, {Op: api.Below, N: 77}, {Op: 99}}
	was := slices.Clone(room)
	n.Subscribe(0, room[:2])
	if !slices.Equal(room, was) {
		t.Errorf("P2: Subscribe writes into its list: %v", room)
	}
	clear(room)
	settle(t, n)
	publish(t, n, 1, 4, 1)
	event := publish(t, n, 1, 5, 1)
	publish(t, n, 1, 5, 0)
	settle(t, n)
	wantLog(t, "P2: a list that is written into later", n, 0, api.Entry{Event: event})
}
