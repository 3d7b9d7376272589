package rover

import (
	"rover/api"
	"rover/brokers"
	"rover/notes"
)

// The kinds of frames; kinds is how many there are.
const (
	subFrame = iota
	unsubFrame
	eventFrame
	kinds
)

// frame is what a broker handles: of a subscription (without its filter, if it ends), or of an event. It is never written to once it is made, as one frame may wait in several links.
type frame struct {
	kind         int
	subscription brokers.Subscription
	event        api.Event
	stay         int
}

// handle lets the broker at handle a frame that came from the neighbour from, or from a client that is Here.
func (n *Net) handle(at, from int, f *frame) {
	handlers := [kinds]func(*Net, int, int, *frame){
		subFrame:   (*Net).handleSub,
		unsubFrame: (*Net).handleUnsub,
		eventFrame: (*Net).handleEvent,
	}
	handlers[f.kind](n, at, from, f)
}

func (n *Net) handleSub(at, from int, f *frame) {
	n.brokers[at].Learn(f.subscription, from)
	n.spread(at, from, f)
}

func (n *Net) handleUnsub(at, from int, f *frame) {
	n.brokers[at].Forget(f.subscription)
	n.spread(at, from, f)
}

func (n *Net) handleEvent(at, from int, f *frame) {
	var wanted [api.MaxBrokers]bool
	for known := range n.brokers[at].Wanting(f.event.Fields) {
		if known.Way == brokers.Here {
			n.tellOrKeep(at, known, f)
		} else {
			wanted[known.Way] = true
		}
	}
	for to, ok := range wanted {
		if ok && to != from {
			n.links.Send(at, to, f)
		}
	}
}

// tellOrKeep hands an event to the client of a subscription that is Here, or keeps it while the client is not at this broker.
func (n *Net) tellOrKeep(at int, known *brokers.Known, f *frame) {
	c := &n.clients[known.Client]
	take := known.Keep
	if c.At() == at {
		take = c.Tell
	}
	take(notes.Event(known.Slot, f.event, f.stay))
}

// spread sends a frame to all neighbours of the broker at but the one that it came from.
func (n *Net) spread(at, from int, f *frame) {
	for to := range n.tree.Brokers() {
		if to != from && n.tree.Neighbours(at, to) {
			n.links.Send(at, to, f)
		}
	}
}
