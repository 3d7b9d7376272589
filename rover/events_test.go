package rover_test

import (
	"math"
	"slices"
	"testing"

	"rover/api"
)

func TestEventsMeetTheFilter(t *testing.T) {
	events := [][]int{{math.MinInt, 0, 1}, {5, 5, 0}, {4, -1, 0}, {math.MaxInt, 0, -1}}
	for k, c := range []struct {
		filter []api.Test
		told   []int
	}{
		{nil, []int{1, 2, 3, 4}},
		{[]api.Test{{Op: api.Equal, N: 5}}, []int{2}},
		{[]api.Test{{Op: api.Other, N: 5}}, []int{1, 3, 4}},
		{[]api.Test{{Op: api.Below, N: 5}}, []int{1, 3}},
		{[]api.Test{{Op: api.Least, N: 5}}, []int{2, 4}},
		{[]api.Test{{Field: 1, Op: api.Below, N: 0}}, []int{3}},
		{[]api.Test{{Field: 2, Op: api.Least, N: 0}}, []int{1, 2, 3}},
		{[]api.Test{{Op: api.Least, N: math.MinInt}}, []int{1, 2, 3, 4}},
		{[]api.Test{{Op: api.Below, N: math.MinInt}}, nil},
		{[]api.Test{{Op: api.Least, N: math.MaxInt}}, []int{4}},
		{[]api.Test{{Op: api.Least, N: 4}, {Op: api.Below, N: 6}, {Field: 2, Op: api.Equal, N: 0}}, []int{2, 3}},
		{[]api.Test{{Op: api.Equal, N: 4}, {Op: api.Equal, N: 5}}, nil},
	} {
		// Once at the subscriber's own broker, once at one that is far from it.
		for _, publisher := range []int{0, 1} {
			n := start(t, 0, 1)
			attach(t, n, 0, 0)
			attach(t, n, 1, 2)
			subscribe(t, n, 0, c.filter...)
			settle(t, n)
			for _, fields := range events {
				publish(t, n, publisher, fields...)
			}
			settle(t, n)
			log, _ := n.Log(0)
			var told []int
			for _, entry := range log {
				told = append(told, entry.Event.Number)
				if entry.Slot != 0 || entry.Lost != 0 || entry.Event.Publisher != publisher || !slices.Equal(entry.Event.Fields[:], events[entry.Event.Number-1]) {
					t.Errorf("P8: line %d: %+v", k, entry)
				}
			}
			if !slices.Equal(told, c.told) {
				t.Errorf("Words: line %d: %v, want %v", k, told, c.told)
			}
		}
	}
}

// 0 - 1 - 3, 0 - 2 - 4, 0 - 5
func TestEventsGoOnlyWhereTheyAreWanted(t *testing.T) {
	n := start(t, 0, 0, 1, 2, 0)
	for client, broker := range []int{3, 4, 0, 5} {
		attach(t, n, client, broker)
	}
	subscribe(t, n, 0, api.Test{Op: api.Least, N: 5})
	subscribe(t, n, 0, api.Test{Op: api.Least, N: 7})
	subscribe(t, n, 1, api.Test{Op: api.Least, N: 9})
	subscribe(t, n, 2, api.Test{Op: api.Equal, N: 9})
	settle(t, n)

	publish(t, n, 3, 4)
	wantPending(t, "Frames: nobody wants it", n)

	five := publish(t, n, 3, 5)
	deliver(t, n, 5, 0)
	wantPending(t, "Frames: one wants it", n, api.Link{From: 0, To: 1, Many: 1})
	deliver(t, n, 0, 1, 3)
	wantPending(t, "Frames: it is there", n)
	wantLog(t, "P6", n, 0, api.Entry{Event: five})

	nine := publish(t, n, 3, 9)
	wantPending(t, "Frames: once to each neighbour", n, api.Link{From: 5, To: 0, Many: 1})
	deliver(t, n, 5, 0)
	wantPending(t, "Frames: once to each neighbour, none to others", n, api.Link{From: 0, To: 1, Many: 1}, api.Link{From: 0, To: 2, Many: 1})
	settle(t, n)
	wantLog(t, "P6: by rising slots", n, 0, api.Entry{Slot: 0, Event: nine}, api.Entry{Slot: 1, Event: nine})
	wantLog(t, "P6", n, 1, api.Entry{Event: nine})
	wantLog(t, "P6: at the broker between", n, 2, api.Entry{Event: nine})
	wantLog(t, "P6: it asked for nothing", n, 3)
}

func TestEventsAreNotSentBack(t *testing.T) {
	n := start(t, 0, 1)
	attach(t, n, 0, 2)
	attach(t, n, 1, 0)
	subscribe(t, n, 0)
	subscribe(t, n, 1)
	settle(t, n)
	event := publish(t, n, 0)
	wantPending(t, "Frames", n, api.Link{From: 2, To: 1, Many: 1})
	wantLog(t, "P6: its own event", n, 0, api.Entry{Event: event})
	deliver(t, n, 2, 1)
	wantPending(t, "Frames: but F", n, api.Link{From: 1, To: 0, Many: 1})
	deliver(t, n, 1, 0)
	wantPending(t, "Frames: but F", n)
	wantLog(t, "P6", n, 1, api.Entry{Event: event})
	wantLog(t, "P9: not twice", n, 0)
}

func TestAnEventAheadOfTheSubIsNotTold(t *testing.T) {
	n := start(t, 0, 1)
	attach(t, n, 0, 0)
	attach(t, n, 1, 2)
	subscribe(t, n, 0)
	deliver(t, n, 0, 1)
	publish(t, n, 1)
	wantPending(t, "Frames: broker 2 knows nothing yet", n, api.Link{From: 1, To: 2, Many: 1})
	deliver(t, n, 1, 2)
	event := publish(t, n, 1)
	deliver(t, n, 2, 1, 0)
	wantLog(t, "P10: all brokers know it", n, 0, api.Entry{Event: event})
}

// An event that met the old subscription comes when there is a new one in its slot.
func TestALateEventMeetsTheNewFilter(t *testing.T) {
	n := start(t, 0)
	attach(t, n, 0, 0)
	attach(t, n, 1, 1)
	subscribe(t, n, 0)
	settle(t, n)
	publish(t, n, 1, 3)
	event := publish(t, n, 1, 4)
	unsubscribe(t, n, 0, 0)
	subscribe(t, n, 0, api.Test{Op: api.Equal, N: 4})
	settle(t, n)
	wantLog(t, "P9: each that is told meets its filter", n, 0, api.Entry{Event: event})
}

// The publisher goes from broker 1 to broker 2, and its first event comes last.
func TestEventsOfAnEarlierStayMayComeLater(t *testing.T) {
	n := start(t, 0, 0)
	attach(t, n, 0, 0)
	subscribe(t, n, 0)
	settle(t, n)
	attach(t, n, 1, 1)
	first, second := publish(t, n, 1), publish(t, n, 1)
	detach(t, n, 1)
	attach(t, n, 1, 2)
	third := publish(t, n, 1)
	deliver(t, n, 2, 0)
	deliver(t, n, 1, 0)
	deliver(t, n, 1, 0)
	wantLog(t, "Frames: another stay", n, 0, api.Entry{Event: third}, api.Entry{Event: first}, api.Entry{Event: second})
}

func TestLogIsAnsweredOnce(t *testing.T) {
	n := start(t)
	attach(t, n, 2, 0)
	subscribe(t, n, 2)
	first, second := publish(t, n, 2, 1), publish(t, n, 2, 2)
	for _, client := range []int{-1, 4, 0, 1, 3} {
		if l, _ := n.Log(client); len(l) != 0 {
			t.Errorf("P8: Log(%d): %v", client, l)
		}
	}
	log, _ := n.Log(2)
	if !slices.Equal(log, []api.Entry{{Event: first}, {Event: second}}) {
		t.Errorf("P8: Log: %v", log)
	}
	third := publish(t, n, 2, 3)
	if log[0].Event != first {
		t.Errorf("P2: an answer is written into: %v", log)
	}
	clear(log[:cap(log)])
	wantLog(t, "P8: what was not answered yet", n, 2, api.Entry{Event: third})
	wantLog(t, "P8: all was answered", n, 2)
}

func TestWhatWasToldStaysInTheLog(t *testing.T) {
	n := start(t)
	attach(t, n, 0, 0)
	subscribe(t, n, 0)
	event := publish(t, n, 0)
	unsubscribe(t, n, 0, 0)
	publish(t, n, 0)
	detach(t, n, 0)
	wantLog(t, "P8", n, 0, api.Entry{Event: event})
}

func TestABrokerKeepsEventsOfThoseWhoAreAway(t *testing.T) {
	for many := range 9 {
		n := start(t, 0)
		attach(t, n, 0, 0)
		attach(t, n, 1, 1)
		subscribe(t, n, 0, api.Test{Op: api.Least, N: 2})
		subscribe(t, n, 0)
		settle(t, n)
		detach(t, n, 0)
		var kept [2][]api.Entry
		lost := [2]int{}
		for i := range many {
			event := publish(t, n, 1, i)
			for slot, least := range []int{2, 0} {
				switch {
				case i < least:
				case len(kept[slot]) < 6:
					kept[slot] = append(kept[slot], api.Entry{Slot: slot, Event: event})
				default:
					lost[slot]++
				}
			}
		}
		settle(t, n)
		wantLog(t, "P4: away", n, 0)
		attach(t, n, 0, 0)
		wantPending(t, "P4: back home", n)
		var want []api.Entry
		for slot := range kept {
			if lost[slot] > 0 {
				want = append(want, api.Entry{Slot: slot, Lost: lost[slot]})
			}
			want = append(want, kept[slot]...)
		}
		wantLog(t, "P4: Lost first, by rising slots", n, 0, want...)
		detach(t, n, 0)
		event := publish(t, n, 1, 0)
		settle(t, n)
		attach(t, n, 0, 0)
		wantLog(t, "P4: kept no longer", n, 0, api.Entry{Slot: 1, Event: event})
	}
}

func TestEventsInLinksAreKeptToo(t *testing.T) {
	n := start(t, 0)
	attach(t, n, 0, 0)
	attach(t, n, 1, 1)
	subscribe(t, n, 0)
	settle(t, n)
	first, second, third := publish(t, n, 1), publish(t, n, 1), publish(t, n, 1)
	deliver(t, n, 1, 0)
	detach(t, n, 0)
	deliver(t, n, 1, 0)
	attach(t, n, 0, 0)
	deliver(t, n, 1, 0)
	wantLog(t, "P9: by rising numbers", n, 0, api.Entry{Event: first}, api.Entry{Event: second}, api.Entry{Event: third})
}

// Deliver is never refused, and what it makes counts as well.
func TestHandledFramesMayMakeMoreThanMaxFrames(t *testing.T) {
	n := start(t, 0, 0, 0, 0, 0)
	attach(t, n, 0, 1)
	subscribe(t, n, 0)
	for range 49 {
		unsubscribe(t, n, 0, 0)
		subscribe(t, n, 0)
	}
	unsubscribe(t, n, 0, 0)
	wantPending(t, "P7: 100 frames", n, api.Link{From: 1, To: 0, Many: 100})
	if s, e := n.Subscribe(0, nil); s != 0 || e != api.ErrFull {
		t.Errorf("P7: Subscribe: %d, %d", s, e)
	}
	for range 100 {
		deliver(t, n, 1, 0)
	}
	wantPending(t, "P7: 400 frames", n, api.Link{From: 0, To: 2, Many: 100}, api.Link{From: 0, To: 3, Many: 100}, api.Link{From: 0, To: 4, Many: 100}, api.Link{From: 0, To: 5, Many: 100})
	if m, e := n.Publish(0, [3]int{}); m != 0 || e != api.ErrFull {
		t.Errorf("P7: Publish: %d, %d", m, e)
	}
	if m, e := n.Close(); m != 400 || e != api.OK {
		t.Errorf("P8: Close: %d, %d", m, e)
	}
}
