// Package rover: events told to those who roam: see DOC.md.
package rover

import (
	"rover/api"
	"rover/brokers"
	"rover/clients"
	"rover/filters"
	"rover/links"
	"rover/tree"
)

// Net is brokers and clients.
type Net struct {
	closed  bool
	tree    tree.Tree
	links   links.Links[*frame]
	brokers [api.MaxBrokers]brokers.Broker
	clients [api.Clients]clients.Client
}

// New makes a net (P3).
func New(parents []int) (*Net, api.Errno) {
	t, ok := tree.New(parents)
	if !ok {
		return nil, api.ErrArg
	}
	n := &Net{tree: t, links: links.New[*frame](t)}
	for i := range n.clients {
		n.clients[i] = clients.New()
	}
	return n, api.OK
}

// Attach lets a client come to a broker (P4).
func (n *Net) Attach(client int, broker int) api.Errno {
	if e := n.check(isClient(client) && n.tree.Has(broker)); e != api.OK {
		return e
	}
	c := &n.clients[client]
	switch {
	case !c.Away():
		return api.ErrHere
	case n.full():
		return api.ErrFull
	}
	home := c.Home()
	c.Come(broker)
	if home == broker || home == clients.Nowhere {
		n.tellKept(client)
	} else {
		n.move(client, home)
	}
	return api.OK
}

// Detach lets a client go (P4).
func (n *Net) Detach(client int) api.Errno {
	if e := n.check(isClient(client)); e != api.OK {
		return e
	}
	c := &n.clients[client]
	switch {
	case c.Away():
		return api.ErrAway
	case n.waits(client):
		return api.ErrBusy
	}
	c.Leave()
	return api.OK
}

// Subscribe takes a subscription in (P5).
func (n *Net) Subscribe(client int, filter []api.Test) (int, api.Errno) {
	f, ok := filters.New(filter)
	if e := n.check(ok && isClient(client)); e != api.OK {
		return 0, e
	}
	c := &n.clients[client]
	slot, free := c.Free()
	switch {
	case c.Away():
		return 0, api.ErrAway
	case n.waits(client):
		return 0, api.ErrBusy
	case !free:
		return 0, api.ErrNone
	case n.full():
		return 0, api.ErrFull
	}
	s := brokers.Subscription{Client: client, Slot: slot, Age: c.Subscribe(slot, f), Filter: f}
	n.handle(c.At(), brokers.Here, &frame{kind: subFrame, subscription: s})
	return slot, api.OK
}

// Unsubscribe takes a subscription out (P5).
func (n *Net) Unsubscribe(client int, slot int) api.Errno {
	if e := n.check(isClient(client) && isSlot(slot)); e != api.OK {
		return e
	}
	c := &n.clients[client]
	switch {
	case c.Away():
		return api.ErrAway
	case n.waits(client):
		return api.ErrBusy
	case !c.Has(slot):
		return api.ErrNone
	case n.full():
		return api.ErrFull
	}
	s := brokers.Subscription{Client: client, Slot: slot, Age: c.Unsubscribe(slot)}
	n.handle(c.At(), brokers.Here, &frame{kind: unsubFrame, subscription: s})
	return api.OK
}

// Publish publishes an event (P6).
func (n *Net) Publish(client int, fields [3]int) (int, api.Errno) {
	if e := n.check(isClient(client)); e != api.OK {
		return 0, e
	}
	c := &n.clients[client]
	switch {
	case c.Away():
		return 0, api.ErrAway
	case n.full():
		return 0, api.ErrFull
	}
	event := api.Event{Publisher: client, Number: c.Number(), Fields: fields}
	n.handle(c.At(), brokers.Here, &frame{kind: eventFrame, event: event, stay: c.Stay()})
	return event.Number, api.OK
}

// Deliver handles a frame (P6).
func (n *Net) Deliver(from int, to int) api.Errno {
	if e := n.check(n.tree.Neighbours(from, to)); e != api.OK {
		return e
	}
	f, ok := n.links.Take(from, to)
	if !ok {
		return api.ErrNone
	}
	n.handle(to, from, f)
	return api.OK
}

// Pending tells what waits in links (P8).
func (n *Net) Pending() []api.Link {
	return n.links.Pending()
}

// Log tells what was told to a client (P8).
func (n *Net) Log(client int) ([]api.Entry, api.Errno) {
	if e := n.check(isClient(client)); e != api.OK {
		return nil, e
	}
	return n.clients[client].TakeLog(), api.OK
}

// Look tells how a client is (P8).
func (n *Net) Look(client int) (api.View, api.Errno) {
	if e := n.check(isClient(client)); e != api.OK {
		return api.View{}, e
	}
	v := n.clients[client].View()
	v.Waits = n.waits(client)
	return v, api.OK
}

// Close closes the net (P8).
func (n *Net) Close() (int, api.Errno) {
	if n.closed {
		return 0, api.ErrClosed
	}
	left := n.links.Close()
	// A closed net answers nothing but that it is closed, so nothing else is kept.
	*n = Net{closed: true}
	return left, api.OK
}

// check answers the refusals that come ahead of all others (P3); good says whether there is such a client, broker, slot or link.
func (n *Net) check(good bool) api.Errno {
	switch {
	case n.closed:
		return api.ErrClosed
	case !good:
		return api.ErrArg
	}
	return api.OK
}

// tellKept tells a client all that its broker kept for it.
func (n *Net) tellKept(client int) {
	c := &n.clients[client]
	for slot := range api.Slots {
		if known := n.brokers[c.At()].Known(client, slot); known != nil {
			known.Release(c.Tell)
		}
	}
}

// move lets the broker a client has come to send for what is kept for its subscriptions at its old home.
func (n *Net) move(client, oldHome int) {
	c := &n.clients[client]
	for slot := range api.Slots {
		if !c.Has(slot) {
			continue
		}
		s := brokers.Subscription{Client: client, Slot: slot}
		s.Age, s.Filter = c.Move(slot)
		n.brokers[c.At()].Await(s)
		n.pass(c.At(), oldHome, &frame{kind: moveFrame, subscription: s, oldHome: oldHome, newBroker: c.At()})
	}
}

// waits tells whether a broker waits for one of a client's subscriptions. Only the one it is at can: a client does not leave one that waits.
func (n *Net) waits(client int) bool {
	c := &n.clients[client]
	if c.Away() {
		return false
	}
	for slot := range api.Slots {
		if known := n.brokers[c.At()].Known(client, slot); known != nil && known.Waits() {
			return true
		}
	}
	return false
}

// full tells whether calls that may send frames are refused (P7).
func (n *Net) full() bool {
	return n.links.Waiting() >= api.MaxFrames
}

func isClient(client int) bool {
	return client >= 0 && client < api.Clients
}

func isSlot(slot int) bool {
	return slot >= 0 && slot < api.Slots
}
