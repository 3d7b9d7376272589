package rover

import (
	"rover/api"
	"rover/brokers"
	"rover/notes"
)

// The kinds of frames; kinds is how many there are.
const (
	subFrame = iota
	unsubFrame
	eventFrame
	moveFrame
	restFrame
	kinds
)

// frame is what a broker handles: of a subscription (without its filter, if it ends), or of an event. One of a subscription that moves goes between its old home and the new broker. It is never written to once it is made, as one frame may wait in several links.
type frame struct {
	kind         int
	subscription brokers.Subscription
	event        api.Event
	stay         int
	oldHome      int
	newBroker    int
	rest         brokers.Kept
}

// handle lets the broker at handle a frame that came from the neighbour from, or from a client that is Here.
func (n *Net) handle(at, from int, f *frame) {
	handlers := [kinds]func(*Net, int, int, *frame){
		subFrame:   (*Net).handleSub,
		unsubFrame: (*Net).handleUnsub,
		eventFrame: (*Net).handleEvent,
		moveFrame:  (*Net).handleMove,
		restFrame:  (*Net).handleRest,
	}
	handlers[f.kind](n, at, from, f)
}

func (n *Net) handleSub(at, from int, f *frame) {
	n.brokers[at].Learn(f.subscription, from)
	n.spread(at, from, f)
}

func (n *Net) handleUnsub(at, from int, f *frame) {
	n.brokers[at].Forget(f.subscription)
	n.spread(at, from, f)
}

func (n *Net) handleEvent(at, from int, f *frame) {
	var wanted [api.MaxBrokers]bool
	for known := range n.brokers[at].Wanting(f.event.Fields) {
		if known.Way == brokers.Here {
			n.tellOrKeep(at, known, f)
		} else {
			wanted[known.Way] = true
		}
	}
	for to, ok := range wanted {
		if ok && to != from {
			n.links.Send(at, to, f)
		}
	}
}

func (n *Net) handleMove(at, from int, f *frame) {
	kept := n.brokers[at].Turn(f.subscription, from)
	if at != f.oldHome {
		n.pass(at, f.oldHome, f)
		return
	}
	n.pass(at, f.newBroker, &frame{kind: restFrame, subscription: f.subscription, newBroker: f.newBroker, rest: kept})
}

func (n *Net) handleRest(at, _ int, f *frame) {
	if at != f.newBroker {
		n.pass(at, f.newBroker, f)
		return
	}
	client, slot := f.subscription.Client, f.subscription.Slot
	n.brokers[at].Known(client, slot).Arrive(f.rest, n.clients[client].Tell)
}

// tellOrKeep hands an event to the client of a subscription that is Here, or keeps it while the client is not at this broker, or events of the time before it came are still missing.
func (n *Net) tellOrKeep(at int, known *brokers.Known, f *frame) {
	c := &n.clients[known.Client]
	take := known.Keep
	if c.At() == at && !known.Waits() {
		take = c.Tell
	}
	take(notes.Event(known.Slot, f.event, f.stay))
}

// pass sends a frame to the neighbour of the broker at on the path to another one.
func (n *Net) pass(at, goal int, f *frame) {
	n.links.Send(at, n.tree.Next(at, goal), f)
}

// spread sends a frame to all neighbours of the broker at but the one that it came from.
func (n *Net) spread(at, from int, f *frame) {
	for to := range n.tree.Brokers() {
		if to != from && n.tree.Neighbours(at, to) {
			n.links.Send(at, to, f)
		}
	}
}
