// Package brokers: what a broker knows of subscriptions, and what it keeps for them.
package brokers

import (
	"iter"

	"rover/api"
	"rover/filters"
	"rover/notes"
)

// Here is the way to a client of the broker itself; all other ways are neighbours.
const Here = -1

// Subscription is one as brokers tell each other of it.
type Subscription struct {
	Client, Slot int
	Age          int
	Filter       filters.Filter
}

// Known is what a broker knows of a subscription.
type Known struct {
	Subscription
	Way  int
	kept []notes.Note
	more int
}

// Keep keeps a note for a client that is not at this broker; if there is no room for it, it is only counted.
func (k *Known) Keep(note notes.Note) {
	if len(k.kept) == api.MaxKept {
		k.more++
		return
	}
	k.kept = append(k.kept, note)
}

// Release tells all that was kept, ahead of it how many more there were, and keeps it no longer.
func (k *Known) Release(tell func(notes.Note)) {
	if k.more > 0 {
		tell(notes.Lost(k.Slot, k.more))
	}
	for _, note := range k.kept {
		tell(note)
	}
	k.kept, k.more = nil, 0
}

// Broker knows of each client and slot at most one subscription.
type Broker struct {
	known [api.Clients][api.Slots]*Known
}

// Known tells what the broker knows of the subscription of a client in a slot; nil, if nothing.
func (b *Broker) Known(client, slot int) *Known {
	return b.known[client][slot]
}

// Learn lets the broker know a subscription, unless it knows one whose age is not lesser.
func (b *Broker) Learn(s Subscription, way int) {
	known := &b.known[s.Client][s.Slot]
	if *known == nil || (*known).Age < s.Age {
		*known = &Known{Subscription: s, Way: way}
	}
}

// Forget lets the broker know nothing of a subscription any more, unless it knows one of a greater age; the filter is not looked at.
func (b *Broker) Forget(s Subscription) {
	known := &b.known[s.Client][s.Slot]
	if *known != nil && (*known).Age <= s.Age {
		*known = nil
	}
}

// Wanting goes through the subscriptions whose filter an event with these fields meets, by rising clients, then slots.
func (b *Broker) Wanting(fields [api.Fields]int) iter.Seq[*Known] {
	return func(yield func(*Known) bool) {
		for _, slots := range b.known {
			for _, known := range slots {
				if known != nil && known.Filter.Meets(fields) && !yield(known) {
					return
				}
			}
		}
	}
}
