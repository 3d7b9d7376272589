package rover_test

import (
	"testing"

	"rover/api"
	"rover/rover"
)

func wantView(t *testing.T, what string, n *rover.Net, client int, want api.View) {
	t.Helper()
	if v, e := n.Look(client); v != want || e != api.OK {
		t.Errorf("%s: Look(%d): %+v, %d, want %+v", what, client, v, e, want)
	}
}

// entries makes entries of events for a slot.
func entries(slot int, events ...api.Event) []api.Entry {
	var all []api.Entry
	for _, event := range events {
		all = append(all, api.Entry{Slot: slot, Event: event})
	}
	return all
}

// The document's examples, all rows.
func TestExamples(t *testing.T) {
	n := start(t, 0, 0)
	attach(t, n, 0, 1)
	attach(t, n, 1, 2)
	if slot := subscribe(t, n, 0, api.Test{Field: 0, Op: 4, N: 5}); slot != 0 {
		t.Errorf("P5: slot %d", slot)
	}
	wantPending(t, "P5", n, api.Link{From: 1, To: 0, Many: 1})
	deliver(t, n, 1, 0, 2)
	wantPending(t, "P6", n)
	first, second := publish(t, n, 1, 7), publish(t, n, 1, 4)
	if first.Number != 1 || second.Number != 2 {
		t.Errorf("P6: numbers %d, %d", first.Number, second.Number)
	}
	wantPending(t, "P6", n, api.Link{From: 2, To: 0, Many: 1})
	deliver(t, n, 2, 0, 1)
	wantLog(t, "P8", n, 0, api.Entry{Event: first})
	detach(t, n, 0)
	third := publish(t, n, 1, 9)
	deliver(t, n, 2, 0, 1)
	wantLog(t, "P4: it is kept", n, 0)
	attach(t, n, 0, 2)
	wantView(t, "P4", n, 0, api.View{At: 2, Home: 2, Waits: true, Slots: [2]bool{true, false}})
	wantPending(t, "P4: Move", n, api.Link{From: 2, To: 0, Many: 1})
	fourth := publish(t, n, 1, 8)
	if fourth.Number != 4 {
		t.Errorf("P6: number %d", fourth.Number)
	}
	wantLog(t, "P4: it is kept at 2", n, 0)
	deliver(t, n, 2, 0, 1, 0, 2)
	wantLog(t, "P4", n, 0, entries(0, third, fourth)...)
}

// 3 - 1 - 0 - 2 - 4
func TestAMoveGoesToTheOldHomeAndTheRestComesBack(t *testing.T) {
	n := start(t, 0, 0, 1, 2)
	attach(t, n, 0, 3)
	subscribe(t, n, 0)
	settle(t, n)
	detach(t, n, 0)
	attach(t, n, 0, 4)
	row := []int{4, 2, 0, 1, 3, 1, 0, 2, 4}
	for i, from := range row[:len(row)-1] {
		wantPending(t, "Frames: one frame on its path", n, api.Link{From: from, To: row[i+1], Many: 1})
		wantView(t, "P8: it waits", n, 0, api.View{At: 4, Home: 4, Waits: true, Slots: [2]bool{true, false}})
		deliver(t, n, from, row[i+1])
	}
	wantPending(t, "Frames: it has come", n)
	wantView(t, "P8: it waits no longer", n, 0, api.View{At: 4, Home: 4, Slots: [2]bool{true, false}})
	wantLog(t, "Frames: nothing was kept", n, 0)
	detach(t, n, 0)
	wantView(t, "P4", n, 0, api.View{At: -1, Home: 4, Slots: [2]bool{true, false}})
}

// Broker by broker: what is ahead of the Move goes to the old home, what is behind it to the new broker.
func TestTheWayIsTurnedBrokerByBroker(t *testing.T) {
	parents := []int{0, 1, 2, 3}
	for turned := range 5 {
		for at := range 5 {
			n := start(t, parents...)
			attach(t, n, 0, 0)
			attach(t, n, 1, at)
			subscribe(t, n, 0)
			settle(t, n)
			detach(t, n, 0)
			attach(t, n, 0, 4)
			for i := range turned {
				deliver(t, n, 4-i, 3-i)
			}
			before := n.Pending()
			event := publish(t, n, 1)
			after := n.Pending()
			more := map[api.Link]int{}
			for _, link := range after {
				more[api.Link{From: link.From, To: link.To}] += link.Many
			}
			for _, link := range before {
				more[api.Link{From: link.From, To: link.To}] -= link.Many
			}
			// Brokers from 4 - turned on know of the move.
			for link, many := range more {
				up := api.Link{From: at, To: at + 1}
				down := api.Link{From: at, To: at - 1}
				want := 0
				if link == up && at >= 4-turned || link == down && at < 4-turned {
					want = 1
				}
				if many != want {
					t.Errorf("Frames: Move handled by %d, event at %d: %v: %d more", turned, at, link, many)
				}
			}
			wantLog(t, "P4: it waits", n, 0)
			settle(t, n)
			wantLog(t, "P10", n, 0, api.Entry{Event: event})
		}
	}
}

func TestWhileABrokerWaitsTheClientIsBusy(t *testing.T) {
	for slots := 1; slots <= 2; slots++ {
		n := start(t, 0)
		attach(t, n, 0, 0)
		for range slots {
			subscribe(t, n, 0)
		}
		settle(t, n)
		detach(t, n, 0)
		attach(t, n, 0, 1)
		// The first Rest comes; the second one, if there are two slots, does not.
		for range slots - 1 {
			deliver(t, n, 1, 0, 1)
		}
		before, pending := looks(t, n), n.Pending()
		for k, c := range []struct{ got, want api.Errno }{
			{n.Detach(4), api.ErrArg},
			{n.Detach(0), api.ErrBusy},
			{n.Attach(0, 2), api.ErrArg},
			{n.Attach(0, 0), api.ErrHere},
			{n.Attach(0, 1), api.ErrHere},
			{n.Unsubscribe(0, 2), api.ErrArg},
			{n.Unsubscribe(0, 0), api.ErrBusy},
			{n.Unsubscribe(0, 1), api.ErrBusy},
			{n.Unsubscribe(1, 0), api.ErrAway},
			{subscribeError(t, n, 0, api.Test{}), api.ErrArg},
			{subscribeError(t, n, 0), api.ErrBusy},
			{subscribeError(t, n, 1), api.ErrAway},
		} {
			if c.got != c.want {
				t.Errorf("P4, P5: %d slots, line %d: %d, want %d", slots, k, c.got, c.want)
			}
		}
		if after := looks(t, n); after != before || !after[0].Waits {
			t.Errorf("P1: refusals change %v to %v", before, after)
		}
		wantPending(t, "P1: after refusals", n, pending...)
		deliver(t, n, 1, 0, 1)
		if e := n.Unsubscribe(0, 0); e != api.OK {
			t.Errorf("P5: it waits no longer: %d", e)
		}
		if e := subscribeError(t, n, 0); e != api.OK {
			t.Errorf("P5: it waits no longer: %d", e)
		}
		if e := n.Detach(0); e != api.OK {
			t.Errorf("P4: it waits no longer: %d", e)
		}
	}
}

// subscribeError tells what Subscribe answers; beside an error there is no slot.
func subscribeError(t *testing.T, n *rover.Net, client int, filter ...api.Test) api.Errno {
	t.Helper()
	slot, e := n.Subscribe(client, filter)
	if e != api.OK && slot != 0 {
		t.Errorf("P1: slot %d beside %d", slot, e)
	}
	return e
}

func TestOneClientsWaitIsNoOthers(t *testing.T) {
	n := start(t, 0)
	attach(t, n, 0, 0)
	attach(t, n, 1, 1)
	subscribe(t, n, 0)
	subscribe(t, n, 1)
	settle(t, n)
	detach(t, n, 0)
	attach(t, n, 0, 1)
	wantView(t, "P8", n, 1, api.View{At: 1, Home: 1, Slots: [2]bool{true, false}})
	event := publish(t, n, 1)
	wantLog(t, "Frames: told to one", n, 1, api.Entry{Event: event})
	wantLog(t, "Frames: kept for the other", n, 0)
	unsubscribe(t, n, 1, 0)
	detach(t, n, 1)
	settle(t, n)
	wantLog(t, "Frames: told to the other", n, 0, api.Entry{Event: event})
}

func TestWithoutSubscriptionsNothingMoves(t *testing.T) {
	n := start(t, 0, 0)
	attach(t, n, 0, 1)
	subscribe(t, n, 0)
	unsubscribe(t, n, 0, 0)
	settle(t, n)
	detach(t, n, 0)
	attach(t, n, 0, 2)
	wantPending(t, "P4", n)
	wantView(t, "P4", n, 0, api.View{At: 2, Home: 2})
	detach(t, n, 0)
	attach(t, n, 0, 2)
	wantPending(t, "P4: to its home", n)
}

func TestBackHomeNothingMoves(t *testing.T) {
	n := start(t, 0, 0)
	attach(t, n, 0, 1)
	attach(t, n, 1, 2)
	subscribe(t, n, 0)
	settle(t, n)
	detach(t, n, 0)
	event := publish(t, n, 1)
	settle(t, n)
	attach(t, n, 0, 1)
	wantPending(t, "P4: to its home", n)
	wantView(t, "P4: to its home", n, 0, api.View{At: 1, Home: 1, Slots: [2]bool{true, false}})
	wantLog(t, "P4: it was kept", n, 0, api.Entry{Event: event})
}

func TestBothSubscriptionsMoveEachByItself(t *testing.T) {
	n := start(t, 0)
	attach(t, n, 0, 0)
	attach(t, n, 1, 0)
	attach(t, n, 2, 1)
	subscribe(t, n, 0, api.Test{Op: api.Least, N: 5})
	subscribe(t, n, 0)
	settle(t, n)
	detach(t, n, 0)
	four, five := publish(t, n, 1, 4), publish(t, n, 1, 5)
	attach(t, n, 0, 1)
	wantPending(t, "P4: a Move for each", n, api.Link{From: 1, To: 0, Many: 2})
	six := publish(t, n, 2, 6)
	deliver(t, n, 1, 0, 1)
	wantLog(t, "Frames: slot 0 has come", n, 0, entries(0, five, six)...)
	seven := publish(t, n, 2, 7)
	wantLog(t, "Frames: slot 0 waits no longer", n, 0, entries(0, seven)...)
	deliver(t, n, 1, 0, 1)
	wantLog(t, "Frames: slot 1 has come", n, 0, entries(1, four, five, six, seven)...)
	wantPending(t, "Frames: all has come", n)
}

func TestTheRestHasWhatWasKeptAndHowManyMore(t *testing.T) {
	for many := range 10 {
		n := start(t, 0, 1)
		attach(t, n, 0, 0)
		attach(t, n, 1, 0)
		attach(t, n, 2, 2)
		subscribe(t, n, 0)
		settle(t, n)
		detach(t, n, 0)
		var early, late []api.Event
		for range many {
			early = append(early, publish(t, n, 1))
		}
		attach(t, n, 0, 2)
		// The new broker keeps all that comes, though it is more than MaxKept.
		for range 9 {
			late = append(late, publish(t, n, 2))
		}
		wantLog(t, "Frames: it waits", n, 0)
		settle(t, n)
		var want []api.Entry
		if many > 6 {
			want = append(want, api.Entry{Lost: many - 6})
		}
		want = append(want, entries(0, early[:min(many, 6)]...)...)
		want = append(want, entries(0, late...)...)
		wantLog(t, "Frames: Lost, the Rest, then what was kept here", n, 0, want...)
		detach(t, n, 0)
		attach(t, n, 0, 2)
		wantLog(t, "Frames: Rest: it keeps nothing", n, 0)
		detach(t, n, 0)
		attach(t, n, 0, 0)
		settle(t, n)
		wantLog(t, "Frames: Move: it keeps it no longer", n, 0)
	}
}

// The client is elsewhere already, but events come to its old home ahead of the Move.
func TestTheOldHomeKeepsUntilTheMoveComes(t *testing.T) {
	n := start(t, 0)
	attach(t, n, 0, 0)
	attach(t, n, 1, 0)
	subscribe(t, n, 0)
	settle(t, n)
	detach(t, n, 0)
	attach(t, n, 0, 1)
	var all []api.Event
	for range 8 {
		all = append(all, publish(t, n, 1))
	}
	wantLog(t, "Words: its client is not at this broker", n, 0)
	deliver(t, n, 1, 0)
	ninth := publish(t, n, 1)
	wantPending(t, "Frames: Rest, then the event", n, api.Link{From: 0, To: 1, Many: 2})
	deliver(t, n, 0, 1)
	want := append([]api.Entry{{Lost: 2}}, entries(0, all[:6]...)...)
	wantLog(t, "Frames: Rest", n, 0, want...)
	deliver(t, n, 0, 1)
	wantLog(t, "Frames: Event", n, 0, api.Entry{Event: ninth})
}

// An event goes to both ends of the move, for another client's sake; it is told once, and nothing with a lower number after it.
func TestAnEventThatIsKeptTwiceIsToldOnce(t *testing.T) {
	n := start(t, 0, 0)
	attach(t, n, 0, 1)
	attach(t, n, 1, 0)
	attach(t, n, 2, 2)
	subscribe(t, n, 0)
	subscribe(t, n, 2)
	settle(t, n)
	first := publish(t, n, 1)
	deliver(t, n, 0, 1)
	wantLog(t, "P6: told at the old home", n, 0, api.Entry{Event: first})
	detach(t, n, 0)
	second := publish(t, n, 1)
	deliver(t, n, 0, 1)
	attach(t, n, 0, 2)
	deliver(t, n, 0, 2)
	deliver(t, n, 0, 2)
	deliver(t, n, 2, 0)
	third := publish(t, n, 1)
	settle(t, n)
	wantLog(t, "P9: not twice", n, 0, entries(0, second, third)...)
	wantLog(t, "P9", n, 2, entries(0, first, second, third)...)
}

// A publisher that comes again begins a new stay: its events stand by themselves.
func TestALateEventOfAnotherStayIsTold(t *testing.T) {
	n := start(t, 0, 0)
	attach(t, n, 0, 1)
	attach(t, n, 1, 0)
	attach(t, n, 2, 2)
	subscribe(t, n, 0)
	subscribe(t, n, 2)
	settle(t, n)
	first := publish(t, n, 1)
	detach(t, n, 1)
	attach(t, n, 1, 1)
	second := publish(t, n, 1)
	wantLog(t, "P6: its second stay is heard first", n, 0, api.Entry{Event: second})
	detach(t, n, 0)
	attach(t, n, 0, 2)
	settle(t, n)
	wantLog(t, "Frames: another stay", n, 0, api.Entry{Event: first})
}

func TestWhereverTheClientGoesItIsTold(t *testing.T) {
	n := start(t, 0, 0, 1, 1, 2)
	for client := range 2 {
		attach(t, n, client, 5*client)
	}
	subscribe(t, n, 0, api.Test{Op: api.Other, N: 9})
	settle(t, n)
	for i := range 40 {
		detach(t, n, 0)
		away := publish(t, n, 1, 0)
		publish(t, n, 1, 9)
		settle(t, n)
		if i%3 == 0 {
			detach(t, n, 1)
			attach(t, n, 1, (i+2)%6)
		}
		attach(t, n, 0, (i*5+1)%6)
		waiting := publish(t, n, 1, 1)
		settle(t, n)
		here := publish(t, n, 1, 2)
		settle(t, n)
		wantLog(t, "P10", n, 0, entries(0, away, waiting, here)...)
	}
}

// Ages rise by moves too: the Unsub frame of a subscription that has moved ends it everywhere, and the next one is younger than none.
func TestAfterMovesASubscriptionEndsEverywhere(t *testing.T) {
	n := start(t, 0, 0, 0)
	attach(t, n, 0, 1)
	attach(t, n, 1, 3)
	subscribe(t, n, 0)
	settle(t, n)
	for _, broker := range []int{2, 0, 1} {
		detach(t, n, 0)
		attach(t, n, 0, broker)
		settle(t, n)
	}
	unsubscribe(t, n, 0, 0)
	settle(t, n)
	for broker := range 4 {
		detach(t, n, 1)
		attach(t, n, 1, broker)
		publish(t, n, 1)
		wantPending(t, "Frames: nobody wants it", n)
	}
	wantLog(t, "Frames: nobody wants it", n, 0)
	subscribe(t, n, 0)
	settle(t, n)
	var all []api.Event
	for broker := range 4 {
		detach(t, n, 1)
		attach(t, n, 1, broker)
		all = append(all, publish(t, n, 1))
		settle(t, n)
	}
	wantLog(t, "P10: a new subscription", n, 0, entries(0, all...)...)
}

// The Sub frame comes after the Move, to brokers on the path and beside it.
func TestASubThatIsLateDoesNotTurnTheWayBack(t *testing.T) {
	n := start(t, 0, 0, 0)
	attach(t, n, 0, 1)
	attach(t, n, 1, 0)
	attach(t, n, 2, 3)
	subscribe(t, n, 0)
	detach(t, n, 0)
	attach(t, n, 0, 2)
	deliver(t, n, 2, 0)
	event := publish(t, n, 1)
	wantPending(t, "Frames: the way of the Move", n, api.Link{From: 0, To: 1, Many: 1}, api.Link{From: 0, To: 2, Many: 1}, api.Link{From: 1, To: 0, Many: 1})
	deliver(t, n, 1, 0)
	wantPending(t, "Frames: Sub is sent on in each case", n, api.Link{From: 0, To: 1, Many: 1}, api.Link{From: 0, To: 2, Many: 2}, api.Link{From: 0, To: 3, Many: 1})
	deliver(t, n, 0, 3)
	far := publish(t, n, 2)
	deliver(t, n, 3, 0)
	settle(t, n)
	wantLog(t, "P9", n, 0, entries(0, event, far)...)
}

func TestAMoveIsRefusedWhenLinksAreFull(t *testing.T) {
	n := start(t, 0, 0)
	attach(t, n, 0, 1)
	attach(t, n, 1, 2)
	subscribe(t, n, 0)
	subscribe(t, n, 0)
	settle(t, n)
	detach(t, n, 0)
	for range 99 {
		publish(t, n, 1)
	}
	hundredth := publish(t, n, 1)
	if hundredth.Number != 100 {
		t.Fatalf("P6: number %d", hundredth.Number)
	}
	before := looks(t, n)
	for _, broker := range []int{0, 1, 2} {
		if e := n.Attach(0, broker); e != api.ErrFull {
			t.Errorf("P7: Attach(0, %d): %d", broker, e)
		}
	}
	if after := looks(t, n); after != before {
		t.Errorf("P1: a refusal changes %v to %v", before, after)
	}
	wantPending(t, "P1: a refusal", n, api.Link{From: 2, To: 0, Many: 100})
	deliver(t, n, 2, 0, 1)
	attach(t, n, 0, 2)
	wantPending(t, "P7: both Moves are sent", n, api.Link{From: 2, To: 0, Many: 101})
	// All events are ahead of the Moves, so they come to the old home, which has room for six.
	settle(t, n)
	log, _ := n.Log(0)
	if len(log) != 14 || log[0] != (api.Entry{Lost: 94}) || log[7] != (api.Entry{Slot: 1, Lost: 94}) {
		t.Errorf("P4: %d entries: %v", len(log), log)
	}
}

func TestCloseCountsMovesAndRests(t *testing.T) {
	n := start(t, 0, 0)
	attach(t, n, 0, 1)
	subscribe(t, n, 0)
	subscribe(t, n, 0)
	settle(t, n)
	detach(t, n, 0)
	attach(t, n, 0, 2)
	deliver(t, n, 2, 0, 1)
	if m, e := n.Close(); m != 2 || e != api.OK {
		t.Errorf("P8: Close: %d, %d, want 2", m, e)
	}
	if v, e := n.Look(0); v != (api.View{}) || e != api.ErrClosed {
		t.Errorf("P3: Look: %+v, %d", v, e)
	}
	if e := n.Detach(0); e != api.ErrClosed {
		t.Errorf("P3: Detach: %d", e)
	}
}
