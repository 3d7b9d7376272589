// Package brokers: what a broker knows of subscriptions, and what it keeps for them.
package brokers

import (
	"iter"

	"rover/api"
	"rover/filters"
	"rover/notes"
)

// Here is the way to a client of the broker itself; all other ways are neighbours.
const Here = -1

// Subscription is one as brokers tell each other of it.
type Subscription struct {
	Client, Slot int
	Age          int
	Filter       filters.Filter
}

// Known is what a broker knows of a subscription. It waits, while what another broker keeps for the subscription has not come.
type Known struct {
	Subscription
	Way   int
	waits bool
	kept  Kept
}

// Waits tells whether the broker waits for what another one keeps.
func (k *Known) Waits() bool {
	return k.waits
}

// Keep keeps a note for a client that is not at this broker; if there is no room for it, it is only counted. While the broker waits there is room for all: the client is here, and only what came ahead of it is missing.
func (k *Known) Keep(note notes.Note) {
	if !k.waits && len(k.kept.notes) == api.MaxKept {
		k.kept.more++
		return
	}
	k.kept.notes = append(k.kept.notes, note)
}

// Release tells all that was kept, and keeps it no longer.
func (k *Known) Release(tell func(notes.Note)) {
	k.kept.tell(k.Slot, tell)
	k.kept = Kept{}
}

// Arrive tells what another broker kept, then what was kept here meanwhile, and ends the waiting.
func (k *Known) Arrive(rest Kept, tell func(notes.Note)) {
	rest.tell(k.Slot, tell)
	k.Release(tell)
	k.waits = false
}

// Broker knows of each client and slot at most one subscription.
type Broker struct {
	known [api.Clients][api.Slots]*Known
}

// Known tells what the broker knows of the subscription of a client in a slot; nil, if nothing.
func (b *Broker) Known(client, slot int) *Known {
	return b.known[client][slot]
}

// Learn lets the broker know a subscription, unless it knows one whose age is not lesser.
func (b *Broker) Learn(s Subscription, way int) {
	known := &b.known[s.Client][s.Slot]
	if *known == nil || (*known).Age < s.Age {
		*known = &Known{Subscription: s, Way: way}
	}
}

// Forget lets the broker know nothing of a subscription any more, unless it knows one of a greater age; the filter is not looked at.
func (b *Broker) Forget(s Subscription) {
	known := &b.known[s.Client][s.Slot]
	if *known != nil && (*known).Age <= s.Age {
		*known = nil
	}
}

// Turn lets the broker know a subscription that moves, whatever it knew of it, and hands over what it kept for it.
func (b *Broker) Turn(s Subscription, way int) Kept {
	known := &b.known[s.Client][s.Slot]
	var kept Kept
	if *known != nil {
		kept = (*known).kept
	}
	*known = &Known{Subscription: s, Way: way}
	return kept
}

// Await lets the broker know a subscription whose client has just come, and wait for what the old home keeps for it.
func (b *Broker) Await(s Subscription) {
	b.known[s.Client][s.Slot] = &Known{Subscription: s, Way: Here, waits: true}
}

// Wanting goes through the subscriptions whose filter an event with these fields meets, by rising clients, then slots.
func (b *Broker) Wanting(fields [api.Fields]int) iter.Seq[*Known] {
	return func(yield func(*Known) bool) {
		for _, slots := range b.known {
			for _, known := range slots {
				if known != nil && known.Filter.Meets(fields) && !yield(known) {
					return
				}
			}
		}
	}
}
