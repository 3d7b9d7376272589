package rover_test

import (
	"math"
	"slices"
	"testing"

	"rover/api"
	"rover/rover"
)

var odd = []int{math.MinInt, math.MinInt32, -2, -1, 0, 1, 2, 3, 4, 5, 6, 7, 100, math.MaxInt32, math.MaxInt}

func start(t *testing.T, parents ...int) *rover.Net {
	t.Helper()
	n, e := rover.New(parents)
	if n == nil || e != api.OK {
		t.Fatalf("P3: New(%v): %d", parents, e)
	}
	return n
}

func looks(t *testing.T, n *rover.Net) [api.Clients]api.View {
	t.Helper()
	var all [api.Clients]api.View
	for client := range all {
		v, e := n.Look(client)
		if e != api.OK {
			t.Fatalf("P8: Look(%d): %d", client, e)
		}
		all[client] = v
	}
	return all
}

func TestNewTakesTreesOnly(t *testing.T) {
	for _, parents := range [][]int{nil, {}, {0}, {0, 0}, {0, 1}, {0, 1, 2, 3, 4}, {0, 0, 0, 0, 0}, {0, 1, 0, 3, 2}} {
		if n, e := rover.New(parents); n == nil || e != api.OK {
			t.Errorf("P3: New(%v): %d", parents, e)
		}
	}
	for _, parents := range [][]int{{1}, {-1}, {0, 2}, {0, 1, 3}, {0, 0, 0, 0, 5}, {0, 0, -1}, {math.MaxInt}, {math.MinInt}, {0, 0, 0, 0, 0, 0}, make([]int, 10000)} {
		if n, e := rover.New(parents); n != nil || e != api.ErrArg {
			t.Errorf("P3: New of %d parents, no tree: %d", len(parents), e)
		}
	}
}

func TestANewNetIsEmpty(t *testing.T) {
	n := start(t, 0, 0)
	for client, v := range looks(t, n) {
		if v != (api.View{At: -1, Home: -1}) {
			t.Errorf("P3: client %d: %+v", client, v)
		}
		if l, e := n.Log(client); len(l) != 0 || e != api.OK {
			t.Errorf("P8: Log(%d): %v, %d", client, l, e)
		}
	}
	if p := n.Pending(); len(p) != 0 {
		t.Errorf("P8: Pending: %v", p)
	}
	if m, e := n.Close(); m != 0 || e != api.OK {
		t.Errorf("P8: Close: %d, %d", m, e)
	}
}

func TestParentsAreTheCallers(t *testing.T) {
	room := []int{0, 1, 2, 77, 78}
	parents := room[:3]
	n := start(t, parents...)
	if !slices.Equal(room, []int{0, 1, 2, 77, 78}) {
		t.Errorf("P2: New writes into its list: %v", room)
	}
	for i := range room {
		room[i] = 0
	}
	if e := n.Deliver(3, 2); e != api.ErrNone {
		t.Errorf("P2: New keeps its list: %d", e)
	}
	if e := n.Deliver(3, 0); e != api.ErrArg {
		t.Errorf("P2: New keeps its list: %d", e)
	}
}

func TestEveryBrokerMayBeCome(t *testing.T) {
	n := start(t, 0, 0, 1, 1, 2)
	for broker := range 6 {
		if e := n.Attach(0, broker); e != api.OK {
			t.Errorf("P4: Attach(0, %d): %d", broker, e)
		}
		if v, _ := n.Look(0); v != (api.View{At: broker, Home: broker}) {
			t.Errorf("P4: at %d: %+v", broker, v)
		}
		if e := n.Detach(0); e != api.OK {
			t.Errorf("P4: Detach(0): %d", e)
		}
		if v, _ := n.Look(0); v != (api.View{At: -1, Home: broker}) {
			t.Errorf("P4: away from %d: %+v", broker, v)
		}
	}
	for client, v := range looks(t, n) {
		if client > 0 && v != (api.View{At: -1, Home: -1}) {
			t.Errorf("P4: client %d: %+v", client, v)
		}
	}
	if p := n.Pending(); len(p) != 0 {
		t.Errorf("P4: without subscriptions frames wait: %v", p)
	}
}

func TestAttachBackHome(t *testing.T) {
	n := start(t, 0)
	n.Attach(3, 1)
	n.Detach(3)
	if e := n.Attach(3, 1); e != api.OK {
		t.Errorf("P4: back home: %d", e)
	}
	if v, _ := n.Look(3); v != (api.View{At: 1, Home: 1}) {
		t.Errorf("P4: back home: %+v", v)
	}
}

func TestRefusalsOfAttachAndDetach(t *testing.T) {
	n := start(t, 0)
	n.Attach(0, 1)
	n.Attach(1, 0)
	n.Detach(1)
	before := looks(t, n)
	for k, c := range []struct{ got, want api.Errno }{
		{n.Attach(-1, 0), api.ErrArg},
		{n.Attach(4, 0), api.ErrArg},
		{n.Attach(2, -1), api.ErrArg},
		{n.Attach(2, 2), api.ErrArg},
		{n.Attach(0, 2), api.ErrArg},
		{n.Attach(0, 0), api.ErrHere},
		{n.Attach(0, 1), api.ErrHere},
		{n.Detach(-1), api.ErrArg},
		{n.Detach(4), api.ErrArg},
		{n.Detach(1), api.ErrAway},
		{n.Detach(2), api.ErrAway},
	} {
		if c.got != c.want {
			t.Errorf("P4: line %d: %d, want %d", k, c.got, c.want)
		}
	}
	if after := looks(t, n); after != before {
		t.Errorf("P1: refusals change %v to %v", before, after)
	}
}

func TestNumbersOfEvents(t *testing.T) {
	n := start(t, 0, 0)
	for client := range api.Clients {
		if m, e := n.Publish(client, [3]int{1, 2, 3}); m != 0 || e != api.ErrAway {
			t.Errorf("P6: away: %d, %d", m, e)
		}
		n.Attach(client, client%3)
	}
	fields := [][3]int{{}, {math.MinInt, math.MaxInt, -1}, {7, 7, 7}}
	for i, f := range fields {
		for client := range api.Clients {
			if m, e := n.Publish(client, f); m != i+1 || e != api.OK {
				t.Errorf("P6: Publish(%d, %v): %d, %d, want %d", client, f, m, e, i+1)
			}
		}
	}
	n.Detach(2)
	n.Publish(2, [3]int{})
	n.Attach(2, 1)
	if m, e := n.Publish(2, [3]int{}); m != 4 || e != api.OK {
		t.Errorf("P6: at another broker: %d, %d, want 4", m, e)
	}
	if p := n.Pending(); len(p) != 0 {
		t.Errorf("P6: events that nobody wants are sent: %v", p)
	}
	for client := range api.Clients {
		if l, e := n.Log(client); len(l) != 0 || e != api.OK {
			t.Errorf("P8: Log(%d): %v, %d", client, l, e)
		}
	}
}

func TestManyEventsOfNoConcern(t *testing.T) {
	n := start(t, 0)
	n.Attach(0, 0)
	for i := 1; i <= 5000; i++ {
		if m, e := n.Publish(0, [3]int{i}); m != i || e != api.OK {
			t.Fatalf("P6: %d, %d, want %d", m, e, i)
		}
	}
}

func TestDeliverBetweenNeighboursOnly(t *testing.T) {
	n := start(t, 0, 0, 1)
	near := map[[2]int]int{{0, 1}: 1, {1, 0}: 1, {0, 2}: 1, {2, 0}: 1, {1, 3}: 1, {3, 1}: 1}
	for _, from := range odd {
		for _, to := range odd {
			want := api.ErrArg
			if near[[2]int{from, to}] == 1 {
				want = api.ErrNone
			}
			if e := n.Deliver(from, to); e != want {
				t.Errorf("P6: Deliver(%d, %d): %d, want %d", from, to, e, want)
			}
		}
	}
}

func TestNoSuchClientOrSlot(t *testing.T) {
	n := start(t, 0)
	for _, client := range odd {
		if client >= 0 && client < api.Clients {
			continue
		}
		if v, e := n.Look(client); v != (api.View{}) || e != api.ErrArg {
			t.Errorf("P3: Look(%d): %+v, %d", client, v, e)
		}
		if l, e := n.Log(client); l != nil || e != api.ErrArg {
			t.Errorf("P3: Log(%d): %v, %d", client, l, e)
		}
		if m, e := n.Publish(client, [3]int{}); m != 0 || e != api.ErrArg {
			t.Errorf("P3: Publish(%d): %d, %d", client, m, e)
		}
		if s, e := n.Subscribe(client, nil); s != 0 || e != api.ErrArg {
			t.Errorf("P3: Subscribe(%d): %d, %d", client, s, e)
		}
		for _, e := range []api.Errno{n.Attach(client, 0), n.Detach(client), n.Unsubscribe(client, 0)} {
			if e != api.ErrArg {
				t.Errorf("P3: client %d: %d", client, e)
			}
		}
	}
	for _, slot := range odd {
		if slot >= 0 && slot < api.Slots {
			continue
		}
		if e := n.Unsubscribe(0, slot); e != api.ErrArg {
			t.Errorf("P3: slot %d: %d", slot, e)
		}
	}
}

func TestAClosedNetAnswersThatItIs(t *testing.T) {
	n := start(t, 0)
	n.Attach(0, 1)
	n.Publish(0, [3]int{})
	if m, e := n.Close(); m != 0 || e != api.OK {
		t.Errorf("P8: Close: %d, %d", m, e)
	}
	for _, a := range odd {
		if v, e := n.Look(a); v != (api.View{}) || e != api.ErrClosed {
			t.Errorf("P3: Look(%d): %+v, %d", a, v, e)
		}
		if l, e := n.Log(a); l != nil || e != api.ErrClosed {
			t.Errorf("P3: Log(%d): %v, %d", a, l, e)
		}
		if m, e := n.Publish(a, [3]int{}); m != 0 || e != api.ErrClosed {
			t.Errorf("P3: Publish(%d): %d, %d", a, m, e)
		}
		if s, e := n.Subscribe(a, []api.Test{{Field: a}}); s != 0 || e != api.ErrClosed {
			t.Errorf("P3: Subscribe(%d): %d, %d", a, s, e)
		}
		for _, b := range odd {
			for k, e := range []api.Errno{n.Attach(a, b), n.Detach(a), n.Unsubscribe(a, b), n.Deliver(a, b)} {
				if e != api.ErrClosed {
					t.Errorf("P3: line %d (%d, %d): %d", k, a, b, e)
				}
			}
		}
	}
	if p := n.Pending(); p != nil {
		t.Errorf("P3: Pending: %v", p)
	}
	if m, e := n.Close(); m != 0 || e != api.ErrClosed {
		t.Errorf("P8: Close again: %d, %d", m, e)
	}
}

// walk makes the k-th of a fixed row of calls, and tells all that it answers.
func walk(n *rover.Net, k int) []int {
	a, b := odd[k%len(odd)], odd[k/3%len(odd)]
	m, e := n.Publish(a, [3]int{k, b, a})
	v, e2 := n.Look(b)
	answers := []int{m, int(e), v.At, v.Home, int(e2), int(n.Deliver(a, b))}
	if v.Waits {
		answers = append(answers, -1)
	}
	for _, link := range n.Pending() {
		answers = append(answers, link.From, link.To, link.Many)
	}
	log, e3 := n.Log(k % 5)
	for _, entry := range log {
		answers = append(answers, entry.Slot, entry.Lost, entry.Event.Publisher, entry.Event.Number)
	}
	switch k % 4 {
	case 0:
		return append(answers, int(e3), int(n.Attach(a, b)))
	case 1:
		return append(answers, int(e3), int(n.Detach(b)))
	case 2:
		slot, e4 := n.Subscribe(a, []api.Test{{Field: k % 3, Op: k % 5, N: b}})
		return append(answers, int(e3), slot, int(e4))
	}
	return append(answers, int(e3), int(n.Unsubscribe(b, k/4%2)))
}

func TestNetsHaveNothingToDoWithEachOther(t *testing.T) {
	const calls = 3000
	alone := start(t, 0, 1, 0)
	var want [][]int
	for k := range calls {
		want = append(want, walk(alone, k))
	}
	one, other, closed := start(t, 0, 1, 0), start(t, 0), start(t)
	closed.Close()
	for k := range calls {
		walk(other, k+1)
		walk(closed, k)
		if got := walk(one, k); !slices.Equal(got, want[k]) {
			t.Fatalf("P2: call %d: %v, alone %v", k, got, want[k])
		}
	}
}

func TestNoNumberIsTooOdd(t *testing.T) {
	for _, parents := range [][]int{nil, {0}, {0, 0, 1, 3, 3}} {
		n := start(t, parents...)
		for _, a := range odd {
			for _, b := range odd {
				n.Attach(a, b)
				n.Publish(a, [3]int{a, b, a})
				n.Subscribe(a, []api.Test{{Field: a, Op: b, N: a}})
				n.Unsubscribe(a, b)
				n.Deliver(a, b)
				n.Log(a)
				n.Look(a)
				n.Pending()
				n.Detach(b)
			}
		}
		for client, v := range looks(t, n) {
			if v.At < -1 || v.At > len(parents) || v.Home < -1 || v.Home > len(parents) {
				t.Errorf("P1: client %d: %+v", client, v)
			}
		}
	}
}
