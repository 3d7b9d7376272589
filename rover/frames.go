package rover

import "rover/api"

// The kinds of frames; kinds is how many there are.
const (
	eventFrame = iota
	kinds
)

// frame is what a broker handles. It is never written to once it is made, as one frame may wait in several links.
type frame struct {
	kind  int
	event api.Event
}

// handle lets the broker at handle a frame that came from the neighbour from (or clients.Nowhere, if it came from a client).
func (n *Net) handle(at, from int, f *frame) {
	handlers := [kinds]func(*Net, int, int, *frame){
		eventFrame: (*Net).handleEvent,
	}
	handlers[f.kind](n, at, from, f)
}

// handleEvent has nothing to do while no broker can know a subscription: there is nobody to tell, and no way to send the event on.
func (n *Net) handleEvent(at, from int, f *frame) {}
