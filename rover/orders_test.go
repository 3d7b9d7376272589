package rover_test

import (
	"testing"

	"rover/api"
	"rover/rover"
)

// choices is one run through a tree of choices: those that were made before are made again, behind them the first one each.
type choices struct {
	made, of []int
	at       int
}

func (c *choices) pick(of int) int {
	if c.at == len(c.made) {
		c.made, c.of = append(c.made, 0), append(c.of, of)
	}
	c.at++
	return c.made[c.at-1]
}

// next goes on to the next run; false, if there was none that is left.
func (c *choices) next() bool {
	for c.at = len(c.made) - 1; c.at >= 0; c.at-- {
		if c.made[c.at]++; c.made[c.at] < c.of[c.at] {
			c.made, c.of, c.at = c.made[:c.at+1], c.of[:c.at+1], 0
			return true
		}
	}
	return false
}

// act is a call of a client: to a broker, away, or an event.
type act struct {
	client, what, broker int
}

const (
	comes = iota
	leaves
	tells
)

func (a act) do(n *rover.Net) bool {
	var e api.Errno
	switch a.what {
	case comes:
		e = n.Attach(a.client, a.broker)
	case leaves:
		e = n.Detach(a.client)
	default:
		_, e = n.Publish(a.client, [3]int{})
	}
	return e == api.OK
}

// run makes the acts in their order, and between them delivers frames as the choices say, until nothing is left. An act that is refused is made later.
func run(t *testing.T, n *rover.Net, acts []act, c *choices) {
	for {
		pending := n.Pending()
		options := len(pending)
		// A client leaves only when no broker waits for it: that is no choice, as a refusal changes nothing.
		ready := len(acts) > 0 && !(acts[0].what == leaves && waits(n, acts[0].client))
		if ready {
			options++
		}
		if options == 0 {
			break
		}
		if k := c.pick(options); k < len(pending) {
			deliver(t, n, pending[k].From, pending[k].To)
			continue
		}
		if !acts[0].do(n) {
			t.Fatalf("P4, P6: %+v is refused", acts[0])
		}
		acts = acts[1:]
	}
	if len(acts) > 0 {
		t.Fatalf("P4: %+v is busy, though nothing waits", acts[0])
	}
}

func waits(n *rover.Net, client int) bool {
	v, _ := n.Look(client)
	return v.Waits
}

// holdAll holds that all events of each publisher were told once, by rising numbers.
func holdAll(t *testing.T, n *rover.Net, client int, published [api.Clients]int) bool {
	log, _ := n.Log(client)
	var last [api.Clients]int
	for _, entry := range log {
		if entry.Lost != 0 || entry.Event.Number != last[entry.Event.Publisher]+1 {
			t.Errorf("P9, P10: client %d: %v", client, log)
			return false
		}
		last[entry.Event.Publisher]++
	}
	if last != published {
		t.Errorf("P10: client %d: %v, published %v", client, log, published)
		return false
	}
	return true
}

func TestEveryOrderOfAFewActs(t *testing.T) {
	for _, c := range []struct {
		name        string
		parents, at []int
		acts        []act
	}{
		{
			"to a neighbour",
			[]int{0}, []int{0, 0, 1},
			[]act{{1, tells, 0}, {2, tells, 0}, {0, leaves, 0}, {1, tells, 0}, {2, tells, 0}, {0, comes, 1}, {1, tells, 0}, {2, tells, 0}},
		},
		{
			"there and back",
			[]int{0}, []int{0, 0},
			[]act{{1, tells, 0}, {0, leaves, 0}, {1, tells, 0}, {0, comes, 1}, {1, tells, 0}, {0, leaves, 0}, {1, tells, 0}, {0, comes, 0}, {1, tells, 0}},
		},
		{
			"from leaf to leaf",
			[]int{0, 0}, []int{1, 0, 2},
			[]act{{1, tells, 0}, {0, leaves, 0}, {1, tells, 0}, {0, comes, 2}, {1, tells, 0}},
		},
		{
			"round",
			[]int{0, 0}, []int{1, 2},
			[]act{{1, tells, 0}, {0, leaves, 0}, {1, tells, 0}, {0, comes, 2}, {1, tells, 0}, {0, leaves, 0}, {1, tells, 0}, {0, comes, 0}, {1, tells, 0}},
		},
		{
			"side by side",
			[]int{0, 1}, []int{0, 2},
			[]act{{0, leaves, 0}, {1, leaves, 0}, {0, comes, 2}, {0, tells, 0}, {1, comes, 0}, {1, tells, 0}},
		},
	} {
		orders := 0
		for order := new(choices); ; {
			n := start(t, c.parents...)
			for client, broker := range c.at {
				attach(t, n, client, broker)
				subscribe(t, n, client)
			}
			settle(t, n)
			run(t, n, c.acts, order)
			orders++
			var published [api.Clients]int
			for _, a := range c.acts {
				if a.what == tells {
					published[a.client]++
				}
			}
			for client := range c.at {
				if !holdAll(t, n, client, published) {
					t.Fatalf("%s: in the order %v", c.name, order.made)
				}
			}
			if !order.next() {
				break
			}
		}
		t.Logf("%s: %d orders", c.name, orders)
	}
}
